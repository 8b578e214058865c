/- Layer 2: the walks of has, powered and lay. -/
import Derived.Test.YthmpdnndfgmmfaaDisk
import Derived.RangeFuncNested
import Derived.RangeFuncBound
import Derived.RangeFuncCalls
import Derived.RangeFuncLeaves
import Derived.RangeFuncBox
import Derived.Shelf.Abstract
import Derived.Shelf.RegionOpen
import Derived.WalkKit
import Derived.OwnWalkIn
import Derived.TacticsInMore
import Derived.LoopNIn
import Derived.LoopIn
import Derived.Maps.AppendAt
import Derived.IntWalk
import Derived.Deep.RegionHeld3
import Derived.Test.YthmpdnndfgmmfaaProg
namespace Go.Proofs.Ythmpdnndfgmmfaa.Disk
open Go.RowKit

attribute [local go_sem] Oper.semAt_some

theorem has_any {w : World} {F : Foot} {D : Dk} (h : On w F D) (a : Int) (h1 : -9223372036854775808 ≤ a) (h2 : a ≤ 9223372036854775807) :
    Calls Try.prog 29 #[.pointer (some ⟨F.p, 0, none⟩), .int .i64 a] w fun e w' => e = .returned (.bool (decide (0 ≤ a ∧ a < D.n))) ∧ w = w' := by
  have c0 := h.c0
  have n1 := h.ok.n1
  have n2 := h.ok.n2
  clear h
  by_cases h0 : 0 ≤ a
  · by_cases h3 : a < D.n
    · go_enter Try.func29, Try.ntmps29
      go_wp2
      go_ret
      exact ⟨Kit.ret_bool (by simp; omega), rfl⟩
    · go_enter Try.func29, Try.ntmps29
      go_wp2
      go_ret
      exact ⟨Kit.ret_bool (by simp; omega), rfl⟩
  · go_enter Try.func29, Try.ntmps29
    go_wp2
    go_ret
    exact ⟨Kit.ret_bool (by simp; omega), rfl⟩

/-- powered: whether there is power for one more call, which is counted then. -/
theorem powered_any {w : World} {F : Foot} {D : Dk} (h : On w F D) :
    Calls Try.prog 31 #[.pointer (some ⟨F.p, 0, none⟩)] w fun e w' => e = .returned (.bool D.powered) ∧ On w' F (if D.powered then D.spent else D) ∧ Moved (fun k => k = F.p) w w' := by
  have c2 := h.c2
  have c3 := h.c3
  have f3 := h.fz 3
  have hl := h.ok.left
  have hh := Lib.hid h
  clear h
  obtain ⟨n, K, pd, cut, left⟩ := D
  dsimp only at c2 c3 hl
  rcases cut with _ | _
  · go_enter Try.func31, Try.ntmps31
    go_wp2
    go_ret
    refine ⟨rfl, hh.out, Moved.refl _ _⟩
  · rcases left with _ | left
    · go_enter Try.func31, Try.ntmps31
      go_wp2
      go_ret
      refine ⟨rfl, hh.out, Moved.refl _ _⟩
    · have hne : ((left : Int) + 1 == 0) = false := by simp; omega
      have hw : IntKind.i64.wrap ((left : Int) + 1 - 1) = (left : Int) := by rw [IntKind.wrap_i64]; omega
      go_enter Try.func31, Try.ntmps31
      go_wp2
      go_ret
      refine ⟨rfl, ?_, Moved.setCell _ _ _ _ rfl⟩
      have h := hh.out
      refine h.field (D' := ⟨n, K, pd, true, left⟩) F.pv (heap_setCell_same w F.p 3 _ h.box) ?_ ?_ ⟨h.ok.n1, h.ok.n2, h.ok.kept, h.ok.pend, by dsimp only; omega, h.ok.few⟩ rfl rfl h.ap1 h.ap2
      · exact Below.heap_setCell w ⟨F.p, 3, none⟩ _ F.kb h.ne.symm
      · exact ownsRow_kept h.row fun k hk => Below.heap_setCell w ⟨F.p, 3, none⟩ _ k (fun e => h.ap1 (by rw [hk, e]))

theorem cell_setCells_other {w : World} {a : Addr} {v : Value} (h : w.cell? a = some v) (b o : Nat) (vs : List Value) (hne : a.block ≠ b) : (w.setCells b o vs).cell? a = some v := by
  rw [World.cell?_setCells_out b vs o w a (fun e _ => absurd e hne)]; exact h

/-- Out of a row of cells that is known whole. -/
theorem rangeAt_new (w : World) (cs : List Value) (T : TypeId) (o : Nat) (xs : List Value) (h : ∀ j v, xs[j]? = some v → cs[o + j]? = some v) : (w.alloc (.cells cs.toArray T)).rangeAt w.heap.size o xs := fun j v hv => by
  refine Kit.cell_new w cs.toArray T (o + j) ?_
  simpa using h j v hv

theorem On.stored {w : World} {F : Foot} {D : Dk} (h : On w F D) (x : Nat × List UInt8) (hx : x.1 < D.n) (hl : x.2.length = 64) : On (w.setCells F.kb (x.1 * 64) (secV x.2)) F { D with kept := layK D.kept x } := by
  have hm := moved_setCells (fun k => k = F.kb) F.kb rfl (secV x.2) (x.1 * 64) w
  have hv : (secV x.2).length = 64 := by rw [secV_len, hl]
  refine ⟨⟨h.ok.n1, h.ok.n2, fun i => ?_, h.ok.pend, h.ok.left, h.ok.few⟩, (hm.block _ h.plt h.ne).trans h.box, h.ne, fun i hi => ⟨?_, World.there_setCells (h.sec i hi).2 _ _ _⟩, ownsRow_kept h.row fun k hk => hm.block k (h.lt k (.inr (.inr hk))) (fun e => h.ap2 (by rw [hk, e])), h.ap1, h.ap2⟩
  · show (layK D.kept x i).length = 64
    unfold layK; split
    · exact hl
    · exact h.ok.kept i
  · show World.rangeAt _ _ _ (secV (layK D.kept x i))
    by_cases e : i = x.1
    · subst e
      rw [show layK D.kept x x.1 = x.2 by simp [layK]]
      exact World.rangeAt_setCells_same w F.kb _ _ (by rw [hv]; exact (h.sec x.1 hx).2)
    · rw [show layK D.kept x i = D.kept i by simp [layK, e]]
      refine World.rangeAt_setCells_apart (h.sec i hi).1 _ _ _ (.inr ?_)
      rw [secV_len, h.ok.kept, hv]
      omega

set_option maxHeartbeats 1000000 in
/-- lay: a write is kept. -/
theorem lay_any {w : World} {F : Foot} {D : Dk} (h : On w F D) (x : Nat × List UInt8) (hx : x.1 < D.n) (hl : x.2.length = 64) :
    Calls Try.prog 28 #[.pointer (some ⟨F.p, 0, none⟩), .agg (wrV x).toArray] w fun e w' => (∃ v, e = .returned v) ∧ On w' F { D with kept := layK D.kept x } ∧ Moved (fun k => k = F.kb) w w' := by
  have c0 := h.c0
  have n1 := h.ok.n1
  have n2 := h.ok.n2
  have hlt := h.plt
  have hklt := h.klt
  have hfree := (h.sec x.1 hx).2
  have hne := h.ne
  have hh := Lib.hid h
  clear h
  have hu := Try.underlying61
  have hlen : (secV x.2).length = 64 := by rw [secV_len, hl]
  have hi : (Try.prog.info? 61).map (·.size) = some (secV x.2).length := by rw [hlen]; kernel_rfl
  have hone := secV_one x.2
  have hi0 : (0 : Int) ≤ (x.1 : Int) := by omega
  have hi1 : (x.1 : Int) < (D.n : Int) := by omega
  go_enter Try.func28, Try.ntmps28
  go_wp2
  have s0 : (w.alloc (.cells (wrV x).toArray 63)).cell? ⟨F.p, 0, none⟩ = some (.slice (some ⟨F.kb, 0, none⟩) D.n D.n) := by rw [World.cell?_alloc_lt _ _ _ hlt]; exact c0
  have s1 : (w.alloc (.cells (wrV x).toArray 63)).cell? ⟨w.heap.size, 0, none⟩ = some (.int .i64 (x.1 : Int)) := Kit.cell_new w _ _ 0 (by simp [wrV])
  have s2 : (w.alloc (.cells (wrV x).toArray 63)).rangeAt w.heap.size 1 (secV x.2) := rangeAt_new w (wrV x) _ 1 _ (fun j v hv => by rw [Nat.add_comm]; exact hv)
  have s3 : (w.alloc (.cells (wrV x).toArray 63)).there F.kb (x.1 * 64) 64 := World.there_alloc hfree _
  generalize hW : w.alloc (.cells (wrV x).toArray 63) = W at *
  have hne2 : w.heap.size ≠ F.kb := by omega
  go_region_held3 (fun w' => w'.cell? ⟨F.p, 0, none⟩ = some (.slice (some ⟨F.kb, 0, none⟩) D.n D.n) ∧ w'.cell? ⟨w.heap.size, 0, none⟩ = some (.int .i64 (x.1 : Int)) ∧ w'.rangeAt w.heap.size 1 (secV x.2) ∧ w'.there F.kb (x.1 * 64) 64)
    (first | (go_split_ands; simp only [World.rangeAt_drew, World.there_drew, World.cell?_drew] at *; (repeat' constructor) <;> first | assumption | (apply World.there_setCells; assumption) | (refine cell_setCells_other (by assumption) _ _ _ (by assumption)) | (refine World.rangeAt_setCells_apart (by assumption) _ _ _ (.inl (by assumption)))))
    (fail)
  go_end0
  have h := hh.out
  have h' : On W F D := h.moved (S := fun _ => False) (by rw [← hW]; exact Moved.alloc _ _ _) (fun _ _ e => e)
  have h2 : On W.drew F D := h'.keep fun _ _ => rfl
  refine ⟨⟨_, rfl⟩, h2.stored x hx hl, ?_⟩
  have hm : Moved (fun k => k = F.kb) w W := by rw [← hW]; exact Moved.alloc _ _ _
  exact (hm.trans (c := W.drew) ⟨rfl, rfl, rfl, Nat.le_refl _, fun _ _ _ => rfl⟩ fun _ _ x => x).trans (moved_setCells (fun k => k = F.kb) F.kb rfl _ _ _) fun _ _ x => x
end Go.Proofs.Ythmpdnndfgmmfaa.Disk
