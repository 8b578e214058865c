/- Boxes of four that may be written; the least value's cells. -/
import Derived.Test.YtbmhlpojgiminaaGreatDoorProg
import Derived.Test.YtbmhlpojgiminaaGreatDoorVal
import Derived.Test.YtbmhlpojgiminaaGreatDoorKit8
namespace Go.Proofs.YtbmhlpojgiminaaGreatDoor.Val
open Go.RowKit
open Kit (ret_int ret_bool Moved)

/-- A box of four that may be written. -/
structure BoxF (W : World) (b : Nat) (v0 v1 v2 v3 : Value) : Prop where
  c : Kit.Box4 W b v0 v1 v2 v3
  f : ∀ i, W.frozen? ⟨b, i, none⟩ = false
theorem BoxF.moved {S : Nat → Prop} {W W' : World} {b : Nat} {v0 v1 v2 v3 : Value} (h : BoxF W b v0 v1 v2 v3) (hm : Moved S W W') (hS : ¬ S b) : BoxF W' b v0 v1 v2 v3 := by
  have hb := hm.block b h.c.lt hS
  have hc := fun i => World.cell?_of_block (w := W) (w' := W') (a := ⟨b, i, none⟩) hb
  have hf := fun i => World.frozen?_of_block (w := W) (w' := W') (a := ⟨b, i, none⟩) hb
  exact ⟨⟨(hc 0).trans h.c.1, (hc 1).trans h.c.2.1, (hc 2).trans h.c.2.2.1, (hc 3).trans h.c.2.2.2⟩, fun i => (hf i).trans (h.f i)⟩
theorem BoxF.alloc {W : World} {b : Nat} {v0 v1 v2 v3 : Value} (h : BoxF W b v0 v1 v2 v3) (o : Obj) : BoxF (W.alloc o) b v0 v1 v2 v3 :=
  h.moved (Kit.Moved.of_below (Kit.below_alloc W o)) (by have := h.c.lt; omega)
theorem boxF_new (w : World) (v0 v1 v2 v3 : Value) (T : TypeId) : BoxF (w.alloc (.cells #[v0, v1, v2, v3] T)) w.heap.size v0 v1 v2 v3 :=
  ⟨Kit.box4_new _ _ _ _ _ _, fun _ => Kit.frozen_new _ _ _ _⟩

theorem end4 {n b : Nat} (hb : n ≤ b) (W : World) (v0 v1 v2 v3 : Value) : Moved (fun k => n ≤ k) W ((((W.setCell ⟨b, 0, none⟩ v0).setCell ⟨b, 1, none⟩ v1).setCell ⟨b, 2, none⟩ v2).setCell ⟨b, 3, none⟩ v3) :=
  (((Kit.Moved.setCell (fun k => n ≤ k) W _ v0 hb).trans (Kit.Moved.setCell (fun k => n ≤ k) _ ⟨b, 1, none⟩ v1 hb) (fun _ _ h => h)).trans (Kit.Moved.setCell (fun k => n ≤ k) _ ⟨b, 2, none⟩ v2 hb) (fun _ _ h => h)).trans (Kit.Moved.setCell (fun k => n ≤ k) _ ⟨b, 3, none⟩ v3 hb) (fun _ _ h => h)
theorem end5 {n b c : Nat} (hb : n ≤ b) (hc : n ≤ c) (o : Nat) (W : World) (u v0 v1 v2 v3 : Value) : Moved (fun k => n ≤ k) W (((((W.setCell ⟨b, o, none⟩ u).setCell ⟨c, 0, none⟩ v0).setCell ⟨c, 1, none⟩ v1).setCell ⟨c, 2, none⟩ v2).setCell ⟨c, 3, none⟩ v3) :=
  (Kit.Moved.setCell (fun k => n ≤ k) W _ u hb).trans (end4 hc _ v0 v1 v2 v3) (fun _ _ h => h)

theorem vInfo : (Tryz.prog.info? 30).map (·.size) = some 4 := by kernel_rfl
theorem vInfo3 : (Tryz.prog.info? 30).map (fun i => (i.zero, i.size, i.bytes)) = some (some (.agg #[.int .i64 0, .int .i64 0, .string ⟨#[]⟩, .slice none 0 0]), 4, 56) := by kernel_rfl
abbrev zero4 : List Value := [.int .i64 0, .int .i64 0, .string ⟨#[]⟩, .slice none 0 0]

theorem cell_moved {S : Nat → Prop} {w w' : World} {b i : Nat} {v : Value} (h : w.cell? ⟨b, i, none⟩ = some v) (hm : Moved S w w') (hS : ¬ S b) : w'.cell? ⟨b, i, none⟩ = some v :=
  (World.cell?_of_block (a := ⟨b, i, none⟩) (hm.block b (Kit.lt_of_cell h) hS)).trans h
theorem BoxF.set3 {W : World} {b : Nat} {v0 v1 v2 v3 : Value} (h : BoxF W b v0 v1 v2 v3) (u : Value) : BoxF (W.setCell ⟨b, 3, none⟩ u) b v0 v1 v2 u := by
  refine ⟨⟨?_, ?_, ?_, World.cell?_setCell_same _ _ _ h.c.2.2.2⟩, fun i => (World.frozen?_setCell _ _ _ _).trans (h.f i)⟩
  · rw [World.cell?_setCell_other _ _ _ _ (by simp)]; exact h.c.1
  · rw [World.cell?_setCell_other _ _ _ _ (by simp)]; exact h.c.2.1
  · rw [World.cell?_setCell_other _ _ _ _ (by simp)]; exact h.c.2.2.1
theorem zero4_one : ∀ u ∈ zero4, u.oneCell' = true := by
  intro u hu
  simp only [zero4, List.mem_cons, List.not_mem_nil, or_false] at hu
  rcases hu with rfl | rfl | rfl | rfl <;> rfl
theorem end4b (b : Nat) (W : World) (v0 v1 v2 v3 : Value) : Moved (fun k => k = b) W ((((W.setCell ⟨b, 0, none⟩ v0).setCell ⟨b, 1, none⟩ v1).setCell ⟨b, 2, none⟩ v2).setCell ⟨b, 3, none⟩ v3) :=
  (((Kit.Moved.setCell (fun k => k = b) W ⟨b, 0, none⟩ v0 rfl).trans (Kit.Moved.setCell (fun k => k = b) _ ⟨b, 1, none⟩ v1 rfl) (fun _ _ h => h)).trans (Kit.Moved.setCell (fun k => k = b) _ ⟨b, 2, none⟩ v2 rfl) (fun _ _ h => h)).trans (Kit.Moved.setCell (fun k => k = b) _ ⟨b, 3, none⟩ v3 rfl) (fun _ _ h => h)
end Go.Proofs.YtbmhlpojgiminaaGreatDoor.Val
