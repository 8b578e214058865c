/- Layer 1: the walks of fold, groups, the iterator and Num. -/
import Derived.RangeFuncNested
import Derived.RangeFuncBound
import Derived.RangeFuncCalls
import Derived.RangeFuncLeaves
import Derived.RangeFuncBox
import Derived.Shelf.Abstract
import Derived.Shelf.RegionOpen
import Derived.WalkKit
import Derived.OwnWalkIn
import Derived.TacticsInMore
import Derived.LoopNIn
import Derived.LoopIn
import Derived.Maps.AppendAt
import Derived.IntWalk
import Derived.Lib.Hide
import Derived.Test.YtbmhlpojgiminaaGreatDoorProg
import Derived.Test.YtbmhlpojgiminaaGreatDoorWireMath
namespace Go.Proofs.YtbmhlpojgiminaaGreatDoor.Wire
open Go.RowKit Go.Shelf

attribute [local go_sem] Oper.semAt_some

theorem ret_int {k : IntKind} {a b : Int} (h : a = b) : Ending.returned (.int k a) = .returned (.int k b) := by rw [h]

set_option maxHeartbeats 400000 in
theorem fold_any (n : Int) (h1 : -9223372036854775808 ≤ n) (h2 : n ≤ 9223372036854775807) (w : World) :
    Calls Tryz.prog 110 #[.int .i64 n] w fun e w' => e = .returned (.int .u64 (foldN n : Int)) ∧ w = w' := by
  by_cases hn : n < 0
  · go_enter Tryz.func110, Tryz.ntmps110
    go_wp2
    go_ret
    exact ⟨ret_int (by unfold foldN; rw [if_pos hn]; omega), rfl⟩
  · go_enter Tryz.func110, Tryz.ntmps110
    go_wp2
    go_ret
    exact ⟨ret_int (by unfold foldN; rw [if_neg (by omega)]; omega), rfl⟩

set_option maxHeartbeats 400000 in
theorem unfold_any (u : Nat) (h : u < 18446744073709551616) (w : World) :
    Calls Tryz.prog 119 #[.int .u64 u] w fun e w' => e = .returned (.int .i64 (unfoldN u)) ∧ w = w' := by
  have hb : ((u : Int)) < 18446744073709551616 := by omega
  by_cases hn : u % 2 = 1
  · have ht : ((u : Int) % 2 == 1) = true := by rw [beq_iff_eq]; omega
    go_enter Tryz.func119, Tryz.ntmps119
    go_wp2
    go_ret
    exact ⟨ret_int (by unfold unfoldN; rw [if_pos hn]; omega), rfl⟩
  · have ht : ((u : Int) % 2 == 1) = false := by rw [beq_eq_false_iff_ne]; omega
    go_enter Tryz.func119, Tryz.ntmps119
    go_wp2
    go_ret
    exact ⟨ret_int (by unfold unfoldN; rw [if_neg hn]; omega), rfl⟩

set_option maxHeartbeats 400000 in
theorem groups_any (n : Int) (w : World) :
    Calls Tryz.prog 94 #[.int .i64 n] w fun e w' => e = .returned (.func (.func 109) #[] #[.pointer (some ⟨w.heap.size, 0, none⟩)]) ∧ w' = w.alloc (.cells #[.int .i64 n] 3) := by
  go_enter Tryz.func94, Tryz.ntmps94
  go_wp2
  go_ret
  exact ⟨rfl, rfl⟩

set_option maxRecDepth 100000 in
set_option maxHeartbeats 1000000 in
/-- The iterator: for every loop body that keeps what lay below n₀. -/
theorem groups1_in (k : Nat) (hk : 1 ≤ k) (l Bn n₀ : Nat) (n : Int) (h1 : -9223372036854775808 ≤ n) (h2 : n ≤ 9223372036854775807) (J Jx : List (Fin 128) → World → Prop)
    (hY : ∀ pre x W, J pre W → pre.length < 10 → YieldAt Fence.wide (k - 1) Tryz.prog l #[.int .u8 ((x : Fin 128).val : Int)] W fun e W' =>
      (e = .returned (.bool true) ∧ J (pre ++ [x]) W' ∧ Below n₀ W W') ∨ (e = .returned (.bool false) ∧ Jx (pre ++ [x]) W'))
    (W : World) (hBn : W.cell? ⟨Bn, 0, none⟩ = some (.int .i64 n)) (h0 : J [] W) :
    CallsIn Fence.wide k Tryz.prog 109 #[.func (.yield l) #[] #[], .pointer (some ⟨Bn, 0, none⟩)] W fun e W' => (∃ v, e = .returned v) ∧
      ((∃ ys, ys = grp 9 (foldN n) ∧ J ys W') ∨ (∃ pre, pre <+: grp 9 (foldN n) ∧ Jx pre W')) := by
  have hlt := foldN_lt h1 h2
  refine callsIn_of_wp Tryz.func109 rfl trivial ?_ rfl
  simp only [Tryz.ntmps109, List.size_toArray, List.length_cons, List.length_nil, Nat.reduceAdd, Nat.reduceSub, Array.replicate_succ, Array.replicate_zero, List.push_toArray, List.append_toArray, List.nil_append, List.cons_append]
  gi_wp2_with (refine ⟨trivial, ?_⟩; gi_at_call 110; refine ((callsIn_wide (n := k - 1)).2 (fold_any n h1 h2 _)).mono ?_; rintro e w' ⟨rfl, rfl⟩)
  gi_loopw [3] (fun p wr => ∃ (pre : List (Fin 128)) (j u : Nat), p = .int .u64 (u : Int) ∧ grp 9 (foldN n) = pre ++ grp j u ∧ u < 128 ^ (j + 1) ∧ u < 18446744073709551616 ∧ pre.length + j = 9 ∧ J pre wr)
    (fun p _ => (intOf p).toNat)
  case atStart =>
    exact ⟨[], 9, _, rfl, rfl, by omega, hlt, rfl, h0⟩
  case round =>
    obtain ⟨pre, j, u, rfl, hx, hj, hu, hl, hJs⟩ := hrel
    obtain ⟨fn, tmps, assign, body, hy, hR⟩ := hY pre ⟨u % 128, Nat.mod_lt _ (by decide)⟩ wr hJs (by omega)
    have hb : ((u : Int)) < 18446744073709551616 := by omega
    dsimp only at hy
    rw [show (((u % 128 : Nat)) : Int) = (u : Int) % 128 from by omega] at hy
    have hpre : ∃ r, grp j u = ⟨u % 128, Nat.mod_lt _ (by decide)⟩ :: r := grp_head j u
    by_cases hz : u / 128 = 0
    · have ht : ((u : Int) / 128 == 0) = true := by rw [beq_iff_eq]; omega
      gi_wp2
      refine hR.mono ?_
      rintro e W3 (⟨rfl, hJ3, hk3⟩ | ⟨rfl, hJx3⟩)
      · gi_wp2
        refine bodyPost_ret (results_none rfl _ _ _) rfl ?_
        exact ⟨⟨_, rfl⟩, .inl ⟨_, by rw [hx, grp_last hz], hJ3⟩⟩
      · gi_wp2
        go_end0
        exact ⟨⟨_, rfl⟩, .inr ⟨_, by rw [hx, grp_last hz]; exact List.prefix_refl _, hJx3⟩⟩
    · have ht : ((u : Int) / 128 == 0) = false := by rw [beq_eq_false_iff_ne]; omega
      have hjp : ∃ j', j = j' + 1 := by
        cases j with
        | zero => simp at hj; omega
        | succ j => exact ⟨j, rfl⟩
      obtain ⟨j', rfl⟩ := hjp
      have hx' : grp 9 (foldN n) = pre ++ [⟨u % 128, Nat.mod_lt _ (by decide)⟩] ++ grp j' (u / 128) := by rw [hx, grp_more hz]; simp
      have hpow : u / 128 < 128 ^ (j' + 1) := by
        rw [Nat.div_lt_iff_lt_mul (by decide)]; rw [Nat.pow_succ] at hj; exact hj
      clear hx hj hpre
      have hX := Lib.hid hx'; clear hx'
      have hP := Lib.hid hpow; clear hpow
      gi_wp2
      refine hR.mono ?_
      rintro e W3 (⟨rfl, hJ3, hk3⟩ | ⟨rfl, hJx3⟩)
      · gi_wp2
        go_roundw
        case rel => exact ⟨_, j', u / 128, by rw [show (((u / 128 : Nat)) : Int) = (u : Int) / 128 from by omega], hX.out, hP.out, by omega, by simp; omega, hJ3⟩
        case measure => simp [intOf]; omega
      · gi_wp2
        go_end0
        exact ⟨⟨_, rfl⟩, .inr ⟨_, by rw [hX.out]; exact List.prefix_append _ _, hJx3⟩⟩

/-- groups hands back a value that stops. -/
theorem groups_stops (k : Nat) (hk : 1 ≤ k) (Bn n₀ : Nat) (n : Int) (h1 : -9223372036854775808 ≤ n) (h2 : n ≤ 9223372036854775807) (w : World) (hBn : Bn < w.heap.size) (hc : w.cell? ⟨Bn, 0, none⟩ = some (.int .i64 n)) :
    SeqStopsK Fence.wide k Tryz.prog 109 #[.pointer (some ⟨Bn, 0, none⟩)] (fun x : Fin 128 => #[Value.int .u8 (x.val : Int)]) (Below n₀) (fun ys => ys = grp 9 (foldN n)) (fun pre => pre <+: grp 9 (foldN n)) 10 w := fun l J Jx W hW _ _ hY h0 =>
  groups1_in k hk l Bn n₀ n h1 h2 J Jx hY W ((hW.cell (p := ⟨Bn, 0, none⟩) hBn).trans hc) h0
end Go.Proofs.YtbmhlpojgiminaaGreatDoor.Wire
