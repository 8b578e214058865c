/- Layer 3's laws: what they share: pick, ValOne. -/
import Derived.Test.YtbmhlpojgiminaaGreatDoorValTextMath
import Derived.Test.YtbmhlpojgiminaaGreatDoorValRd4
import Derived.Test.YtbmhlpojgiminaaGreatDoorPick
import Derived.WalkKit
import Derived.Outline
namespace Go.Proofs.YtbmhlpojgiminaaGreatDoor.Val
open Go.RowKit
open Kit (ret_int ret_bool Moved)

set_option maxHeartbeats 1000000 in
theorem pick_any (c : Int) (h1 : -9223372036854775808 ≤ c) (h2 : c ≤ 9223372036854775807) (n : Nat) (hn : 0 < n) (hn2 : n ≤ 4000000000000000) (w : World) :
    Calls Tryz.prog 29 #[.int .i64 c, .int .i64 (n : Int)] w fun e w' => e = .returned (.int .i64 (pickN c n : Int)) ∧ w = w' := by
  have hn0 : ((n : Int) == 0) = false := beq_eq_false_iff_ne.2 (by omega)
  unfold pickN
  by_cases hc : c < 0
  · rw [if_pos hc]
    obtain ⟨m, hm⟩ : ∃ m : Nat, -(c + 1) = (m : Int) := ⟨(-(c + 1)).toNat, by omega⟩
    have e1 : IntKind.i64.wrap (c + 1) = c + 1 := by rw [IntKind.wrap_i64]; omega
    have e2 : IntKind.i64.wrap (-(c + 1)) = (m : Int) := by rw [IntKind.wrap_i64]; omega
    have e4 : (-(c + 1)).toNat = m := by omega
    rw [e4]
    have hlt : m % n < n := Nat.mod_lt _ hn
    have hM := Lib.hid hm
    clear hm e4
    go_enter Tryz.func29, Tryz.ntmps29
    go_wp2
    go_ret
    exact ⟨Kit.ret_int (by push_cast; rfl), rfl⟩
  · rw [if_neg hc]
    obtain ⟨m, rfl⟩ := Int.eq_ofNat_of_zero_le (Int.not_lt.1 hc)
    have hlt : m % n < n := Nat.mod_lt _ hn
    go_enter Tryz.func29, Tryz.ntmps29
    go_wp2
    go_ret
    exact ⟨Kit.ret_int (by push_cast; rfl), rfl⟩

/-- A number that may be, of a raw one. -/
def numOf (n : Int) : Int := if n < -1000000000000000 ∨ 1000000000000000 < n then (pickN n 1000000000000001 : Int) else n
/-- Of raw numbers, a right value that is no list. -/
def valOne (k n : Int) (s : ByteArray) : Vl :=
  if k = 1 then flat 1 (numOf n) (bs []) else if k = 2 then flat 2 0 (bs (valText s)) else if k = 3 ∨ k = 4 then flat k (1 + (pickN n 100000 : Int)) (bs []) else flat 0 0 (bs [])
theorem valOne_flat (k n : Int) (s : ByteArray) : (valOne k n s).isFlat := by
  unfold valOne
  repeat' split
  all_goals rfl
theorem numOf_range (n : Int) : -1000000000000000 ≤ numOf n ∧ numOf n ≤ 1000000000000000 := by
  unfold numOf
  split
  · have := pickN_lt n (n := 1000000000000001) (by decide); omega
  · omega
theorem rightN_1 {n : Int} (h : -1000000000000000 ≤ n ∧ n ≤ 1000000000000000) : rightN 1 n = true := by
  unfold rightN
  rw [if_neg (by decide), if_pos rfl]
  simp; omega
theorem rightN_ref {k n : Int} (hk : k = 3 ∨ k = 4) (h : (1 ≤ n ∧ n ≤ 100000) ∨ (-20 ≤ n ∧ n ≤ -1)) : rightN k n = true := by
  unfold rightN
  rw [if_neg (by omega), if_neg (by omega), if_pos hk]
  simp; omega
theorem valOne_right (k n : Int) (s : ByteArray) : rightF (valOne k n s) = true ∧ (valOne k n s).k ≠ 5 := by
  unfold valOne
  split
  · exact ⟨by unfold rightF; rw [if_neg (by simp [Vl.k]), show (flat 1 (numOf n) (bs [])).k = 1 from rfl, show (flat 1 (numOf n) (bs [])).n = numOf n from rfl, rightN_1 (numOf_range n)]; rfl, by simp [Vl.k]⟩
  · split
    · exact ⟨by unfold rightF; rw [if_pos (by rfl), show (flat 2 0 (bs (valText s))).s = bs (valText s) from rfl, valText_right s]; rfl, by simp [Vl.k]⟩
    · split
      · rename_i h
        have := pickN_lt n (n := 100000) (by decide)
        refine ⟨?_, by show k ≠ 5; omega⟩
        unfold rightF
        rw [if_neg (by show ¬ k = 2; omega), show (flat k (1 + (pickN n 100000 : Int)) (bs [])).k = k from rfl, show (flat k (1 + (pickN n 100000 : Int)) (bs [])).n = 1 + (pickN n 100000 : Int) from rfl, rightN_ref h (by omega)]; rfl
      · exact ⟨by decide, by decide⟩

theorem oneBox (w : World) (K n : Int) (s : ByteArray) : Below w.heap.size w ((w.alloc (.cells #[.int .i64 K, .int .i64 n, .string s] 52)).alloc (.cells #[.int .i64 0, .int .i64 0, .string ⟨#[]⟩, .slice none 0 0] 30)) := Kit.below_alloc2 _ _ _

set_option maxRecDepth 100000 in
set_option maxHeartbeats 2000000 in
theorem valOne_any (k K n : Int) (s : ByteArray) (hn1 : -9223372036854775808 ≤ n) (hn2 : n ≤ 9223372036854775807) (hs : s.size ≤ 140737488351232) (w : World) :
    Calls Tryz.prog 30 #[.int .i64 k, .agg #[.int .i64 K, .int .i64 n, .string s]] w fun e w' => e = .returned (flatV (valOne k n s).k (valOne k n s).n (valOne k n s).s) ∧ Below w.heap.size w w' := by
  unfold valOne
  by_cases h1 : k = 1
  · subst h1
    rw [if_pos rfl]
    unfold numOf
    by_cases hlo : n < -1000000000000000
    · rw [if_pos (.inl hlo)]
      go_enter Tryz.func30, Tryz.ntmps30
      go_wp2_with fail
      refine (pick_any n hn1 hn2 1000000000000001 (by decide) (by decide) _).mono ?_; rintro e w' ⟨rfl, rfl⟩
      go_wp2
      exact bodyPost_ret (v := flatV 1 (pickN n 1000000000000001 : Int) (bs [])) (by simp [results, Tryz.results30, go_sem]) rfl ⟨rfl, Kit.below_alloc2 _ _ _⟩
    · by_cases hhi : 1000000000000000 < n
      · rw [if_pos (.inr hhi)]
        go_enter Tryz.func30, Tryz.ntmps30
        go_wp2_with fail
        refine (pick_any n hn1 hn2 1000000000000001 (by decide) (by decide) _).mono ?_; rintro e w' ⟨rfl, rfl⟩
        go_wp2
        exact bodyPost_ret (v := flatV 1 (pickN n 1000000000000001 : Int) (bs [])) (by simp [results, Tryz.results30, go_sem]) rfl ⟨rfl, Kit.below_alloc2 _ _ _⟩
      · rw [if_neg (by omega)]
        go_enter Tryz.func30, Tryz.ntmps30
        go_wp2
        exact bodyPost_ret (v := flatV 1 n (bs [])) (by simp [results, Tryz.results30, go_sem]) rfl ⟨rfl, Kit.below_alloc2 _ _ _⟩
  · rw [if_neg h1]
    have k1 : (k == 1) = false := beq_eq_false_iff_ne.2 h1
    by_cases h2 : k = 2
    · subst h2
      rw [if_pos rfl]
      clear h1 k1
      go_enter Tryz.func30, Tryz.ntmps30
      go_wp2_with fail
      refine (valText_any s hs _).mono ?_; rintro e w' ⟨rfl, rfl⟩
      go_wp2
      exact bodyPost_ret (v := flatV 2 0 (bs (valText s))) (by simp [results, Tryz.results30, go_sem]) rfl ⟨rfl, Kit.below_alloc2 _ _ _⟩
    · rw [if_neg h2]
      have k2 : (k == 2) = false := beq_eq_false_iff_ne.2 h2
      by_cases h3 : k = 3 ∨ k = 4
      · rw [if_pos h3]
        have hlt := pickN_lt n (n := 100000) (by decide)
        have hk3 : ((k == 3) = true) ∨ ((k == 3) = false ∧ (k == 4) = true) := by rcases h3 with h | h <;> simp [h]
        clear h1 h2 h3
        rcases hk3 with k3 | ⟨k3, k4⟩
        all_goals
          go_enter Tryz.func30, Tryz.ntmps30
          go_wp2_with fail
          refine (pick_any n hn1 hn2 100000 (by decide) (by decide) _).mono ?_; rintro e w' ⟨rfl, rfl⟩
          go_wp2
          exact bodyPost_ret (v := flatV k (1 + (pickN n 100000 : Int)) (bs [])) (by simp [results, Tryz.results30, go_sem]) rfl ⟨rfl, Kit.below_alloc2 _ _ _⟩
      · rw [if_neg h3]
        have k3 : (k == 3) = false := beq_eq_false_iff_ne.2 (by omega)
        have k4 : (k == 4) = false := beq_eq_false_iff_ne.2 (by omega)
        clear h1 h2 h3
        go_enter Tryz.func30, Tryz.ntmps30
        go_wp2
        exact bodyPost_ret (v := flatV 0 0 (bs [])) (by simp [results, Tryz.results30, go_sem]) rfl ⟨rfl, Kit.below_alloc2 _ _ _⟩
end Go.Proofs.YtbmhlpojgiminaaGreatDoor.Val
