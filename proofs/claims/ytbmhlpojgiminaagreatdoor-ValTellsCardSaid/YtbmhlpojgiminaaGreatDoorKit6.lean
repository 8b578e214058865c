/- Boxes of four cells; cells that lie on. -/
import Derived.Test.YtbmhlpojgiminaaGreatDoorKit5
import Derived.Test.YtbmhlpojgiminaaGreatDoorKit2
namespace Go.Proofs.YtbmhlpojgiminaaGreatDoor.Kit
open Go.RowKit

theorem cell_kept {w : World} {a : Addr} {v : Value} (o : Obj) (h : w.cell? a = some v) : (w.alloc o).cell? a = some v := by
  rw [← h]
  exact ((Below.refl w.heap.size w).alloc (Nat.le_refl _) o).cell (lt_of_cell h)
theorem frozen_kept {w : World} {a : Addr} (o : Obj) (h : a.block < w.heap.size) : (w.alloc o).frozen? a = w.frozen? a :=
  ((Below.refl w.heap.size w).alloc (Nat.le_refl _) o).frozen h
theorem cell_drew {w : World} {a : Addr} {v : Value} (h : w.cell? a = some v) : w.drew.cell? a = some v := h
theorem below_alloc (w : World) (o : Obj) : Below w.heap.size w (w.alloc o) := (Below.refl _ _).alloc (Nat.le_refl _) _
theorem below_alloc2 (w : World) (o p : Obj) : Below w.heap.size w ((w.alloc o).alloc p) := ((Below.refl _ _).alloc (Nat.le_refl _) _).alloc (by simp) _
/-- The cells of a box of four. -/
def Box4 (W : World) (b : Nat) (v0 v1 v2 v3 : Value) : Prop :=
  W.cell? ⟨b, 0, none⟩ = some v0 ∧ W.cell? ⟨b, 1, none⟩ = some v1 ∧ W.cell? ⟨b, 2, none⟩ = some v2 ∧ W.cell? ⟨b, 3, none⟩ = some v3
theorem box4_new (w : World) (v0 v1 v2 v3 : Value) (T : TypeId) : Box4 (w.alloc (.cells #[v0, v1, v2, v3] T)) w.heap.size v0 v1 v2 v3 :=
  ⟨cell_new _ _ _ 0 rfl, cell_new _ _ _ 1 rfl, cell_new _ _ _ 2 rfl, cell_new _ _ _ 3 rfl⟩
theorem Box4.kept {W : World} {b : Nat} {v0 v1 v2 v3 : Value} (h : Box4 W b v0 v1 v2 v3) (o : Obj) : Box4 (W.alloc o) b v0 v1 v2 v3 :=
  ⟨cell_kept o h.1, cell_kept o h.2.1, cell_kept o h.2.2.1, cell_kept o h.2.2.2⟩
theorem Box4.lt {W : World} {b : Nat} {v0 v1 v2 v3 : Value} (h : Box4 W b v0 v1 v2 v3) : b < W.heap.size := lt_of_cell h.1
theorem Box4.below {W W' : World} {b n : Nat} {v0 v1 v2 v3 : Value} (h : Box4 W b v0 v1 v2 v3) (hB : Below n W W') (hn : b < n) : Box4 W' b v0 v1 v2 v3 :=
  ⟨(hB.cell (p := ⟨b, 0, none⟩) hn).trans h.1, (hB.cell (p := ⟨b, 1, none⟩) hn).trans h.2.1, (hB.cell (p := ⟨b, 2, none⟩) hn).trans h.2.2.1, (hB.cell (p := ⟨b, 3, none⟩) hn).trans h.2.2.2⟩
end Go.Proofs.YtbmhlpojgiminaaGreatDoor.Kit
