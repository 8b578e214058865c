/- Layer 2: the walks of New, Pending, Size and Cut. -/
import Derived.Test.YthmpdnndfgmmfaaDiskOnce
import Derived.OwnWalk
namespace Go.Proofs.Ythmpdnndfgmmfaa.Disk
open Go.RowKit

attribute [local go_sem] Oper.semAt_some

def Dk.new (n : Nat) : Dk := ⟨n, fun _ => zeros, [], false, 0⟩
/-- Behind a call of a disk: it lies where it lay, but for what is pending, and nothing else has turned. -/
def After (F : Foot) (w : World) (D' : Dk) (w' : World) : Prop := ∃ pv', On w' { F with pv := pv' } D' ∧ (∀ k, pv'.ownBlock = some k → F.pv.ownBlock = some k ∨ w.heap.size ≤ k) ∧ Moved F.has w w'

theorem madeCells_zero (n q : Nat) (h : q < n * 64) : (madeCells (secV zeros).toArray (n * 64)).toList[q]? = some (.int .u8 0) := by
  have hs : (secV zeros).toArray.size = 64 := by decide
  have hj : q % 64 < 64 := Nat.mod_lt _ (by decide)
  have h1 : (secV zeros)[q % 64]? = some (.int .u8 0) := by
    unfold secV zeros
    rw [List.map_replicate, List.getElem?_replicate, if_pos hj]; rfl
  have h2 : (secV zeros).toArray[q % 64]! = .int .u8 0 := by
    rw [getElem!_def, List.getElem?_toArray, h1]
  rw [Array.getElem?_toList]
  unfold madeCells
  rw [Array.getElem?_map, Array.getElem?_range, if_pos h, Option.map_some, hs, h2]
theorem zeros_at (j : Nat) (v : Value) (h : (secV zeros)[j]? = some v) : v = .int .u8 0 ∧ j < 64 := by
  unfold secV zeros at h
  rw [List.map_replicate, List.getElem?_replicate] at h
  split at h
  · cases h; exact ⟨rfl, by assumption⟩
  · cases h
theorem own_sec {w : World} {b n : Nat} {xs : List Value} (h : w.ownsRow 0 61 64 (.slice (some ⟨b, 0, none⟩) n n) n xs) (hx : ∀ q, q < n * 64 → xs[q]? = some (.int .u8 0)) (i : Nat) (hi : i < n) :
    w.rangeAt b (i * 64) (secV zeros) ∧ w.there b (i * 64) 64 := by
  rcases h.2 with ⟨h1, _⟩ | ⟨g, cap, cur, h1, _, hg, hc, _, hs, ht⟩
  · cases h1
  · cases h1
    have hq : ∀ q, q < n * 64 → w.cell? ⟨b, q, none⟩ = some (.int .u8 0) := fun q hq => by
      rw [cell_of_row w b q _ _ _ hg, ← hx q hq, ← ht, List.getElem?_take, if_pos hq, Array.getElem?_toList]
    refine ⟨fun j v hv => ?_, fun j hj => ?_⟩
    · obtain ⟨rfl, hj⟩ := zeros_at j v hv
      exact hq _ (by omega)
    · refine ⟨by rw [hq _ (by omega)]; rfl, ?_⟩
      unfold World.frozen?; simp [hg]
theorem new_ok (n : Nat) (h1 : 1 ≤ n) (h2 : n ≤ 768) : (Dk.new n).Ok := ⟨h1, h2, fun _ => by simp [Dk.new, zeros], fun x hx => by simp [Dk.new] at hx, by simp [Dk.new], by simp [Dk.new]⟩

set_option maxHeartbeats 1000000 in
theorem new_bad (n : Int) (h1 : -9223372036854775808 ≤ n) (h2 : n ≤ 9223372036854775807) (h : n < 1 ∨ 768 < n) (w : World) :
    Calls Try.prog 26 #[.int .i64 n] w fun e w' => e = .returned (.tuple #[.pointer none, .int .i64 2]) ∧ w = w' := by
  by_cases k : n < 1
  · go_enter Try.func26, Try.ntmps26
    go_wp2
    go_ret2
    exact ⟨rfl, rfl⟩
  · have k2 : 768 < n := by omega
    go_enter Try.func26, Try.ntmps26
    go_wp2
    go_ret2
    exact ⟨rfl, rfl⟩

set_option maxHeartbeats 1000000 in
theorem new_any (n : Nat) (h1 : 1 ≤ n) (h2 : n ≤ 768) (w : World) :
    Calls Try.prog 26 #[.int .i64 (n : Int)] w fun e w' => ∃ F, e = .returned (.tuple #[.pointer (some ⟨F.p, 0, none⟩), .int .i64 0]) ∧ On w' F (Dk.new n) ∧ (∀ k, F.has k → w.heap.size ≤ k) ∧ Below w.heap.size w w' := by
  have hinfo : (Try.prog.info? 61).map (fun i => (i.zero, i.size, i.bytes)) = some (some (.agg (secV zeros).toArray), 64, 64) := by kernel_rfl
  obtain ⟨i0, hi0, hz0, hz1, hz2⟩ := info_parts hinfo
  have k1 : ¬ (n : Int) < 1 := by omega
  have k2 : ¬ 768 < (n : Int) := by omega
  have hmk := fun W => run_make_full (P := Try.prog) W 0 55 61 i0 (.agg (secV zeros).toArray) 64 Try.underlying55 hi0 hz0 hz1 .i64 .i64 n (by rw [hz2]; omega) (by unfold maxLen; omega) (by omega)
  obtain ⟨w1, hrun, hown, hgr⟩ := hmk w
  have HO := Lib.hid hown
  have HG := Lib.hid hgr
  clear hmk hinfo hi0 hz0 hz1 hz2 hown hgr
  go_enter Try.func26, Try.ntmps26
  go_wp2
  go_ret2
  have hlt := (HO.out.lt w.heap.size rfl).2
  have ha : Below w1.heap.size w1 (w1.alloc (.cells #[.slice (some ⟨w.heap.size, 0, none⟩) n n, .slice none 0 0, .bool false, .int .i64 0] 58)) := (Below.refl _ _).alloc (Nat.le_refl _) _
  have hs := own_sec HO.out (fun q hq => madeCells_zero n q hq)
  refine ⟨⟨w1.heap.size, w.heap.size, .slice none 0 0⟩, rfl, ⟨new_ok n h1 h2, World.alloc_heap_new w1 _, by dsimp only; omega, fun i hi => ⟨rangeAt_kept (hs i hi).1 (ha.block _ hlt), there_kept (hs i hi).2 (ha.block _ hlt)⟩, World.ownsRow_nil _ _ _ _, by simp [Value.ownBlock], by simp [Value.ownBlock]⟩, ?_, ?_⟩
  · rintro k (rfl | rfl | hk)
    · exact Nat.le_of_lt hlt
    · exact Nat.le_refl _
    · cases hk
  · exact ((Below.refl _ w).grown HG.out (Nat.le_refl _) (fun k e => by cases e)).trans (ha.mono (Nat.le_of_lt hlt))

theorem pending_any {w : World} {F : Foot} {D : Dk} (h : On w F D) :
    Calls Try.prog 15 #[.pointer (some ⟨F.p, 0, none⟩)] w fun e w' => e = .returned (.int .i64 (D.pend.length : Int)) ∧ w = w' := by
  have c1 := h.c1
  rcases h.pending with ⟨hp, hnil⟩ | ⟨g, cap, hp, _, _, _⟩
  · rw [hp] at c1
    rw [hnil]
    clear h hnil
    go_enter Try.func15, Try.ntmps15
    go_wp2
    go_ret
    exact ⟨rfl, rfl⟩
  · rw [hp] at c1
    clear h
    go_enter Try.func15, Try.ntmps15
    go_wp2
    go_ret
    exact ⟨rfl, rfl⟩

theorem size_any {w : World} {F : Foot} {D : Dk} (h : On w F D) :
    Calls Try.prog 24 #[.pointer (some ⟨F.p, 0, none⟩)] w fun e w' => e = .returned (.int .i64 (D.n : Int)) ∧ w = w' := by
  have c0 := h.c0
  clear h
  go_enter Try.func24, Try.ntmps24
  go_wp2
  go_ret
  exact ⟨rfl, rfl⟩

theorem pv_self {w : World} {F : Foot} {D : Dk} (h : On w F D) : On w { F with pv := F.pv } D := h

theorem cut_any {w : World} {F : Foot} {D : Dk} (h : On w F D) (n : Nat) (hn : n ≤ 9223372036854775807) :
    Calls Try.prog 23 #[.pointer (some ⟨F.p, 0, none⟩), .int .i64 (n : Int)] w fun e w' => e = .returned (.int .i64 0) ∧ After F w { D with cut := true, left := n } w' := by
  have c2 := h.c2
  have c3 := h.c3
  have f2 := h.fz 2
  have f3 := h.fz 3
  have hH := Lib.hid h
  have k1 : ¬ (n : Int) < 0 := by omega
  clear h
  go_enter Try.func23, Try.ntmps23
  go_wp2
  go_ret
  have h := hH.out
  have e1 := heap_setCell_same w F.p 2 (.bool true) h.box
  have e2 := heap_setCell_same _ F.p 3 (.int .i64 (n : Int)) e1
  have hm : Moved (fun k => k = F.p) w ((w.setCell ⟨F.p, 2, none⟩ (.bool true)).setCell ⟨F.p, 3, none⟩ (.int .i64 (n : Int))) :=
    (Moved.setCell (fun k => k = F.p) w _ _ rfl).trans (Moved.setCell (fun k => k = F.p) _ _ _ rfl) fun _ _ x => x
  refine ⟨rfl, F.pv, ?_, fun k hk => .inl hk, hm.mono fun k _ e => .inl e⟩
  exact h.field (D' := { D with cut := true, left := n }) F.pv e2 (hm.block _ h.klt h.ne.symm) (ownsRow_kept h.row fun k hk => hm.block k (h.lt k (.inr (.inr hk))) (fun e => h.ap1 (by rw [hk, e])))
    ⟨h.ok.n1, h.ok.n2, h.ok.kept, h.ok.pend, hn, h.ok.few⟩ rfl rfl h.ap1 h.ap2

theorem cut_bad (w : World) (F : Foot) (n : Int) (hn : n < 0) :
    Calls Try.prog 23 #[.pointer (some ⟨F.p, 0, none⟩), .int .i64 n] w fun e w' => e = .returned (.int .i64 2) ∧ w = w' := by
  go_enter Try.func23, Try.ntmps23
  go_wp2
  go_ret
  exact ⟨rfl, rfl⟩
end Go.Proofs.Ythmpdnndfgmmfaa.Disk
