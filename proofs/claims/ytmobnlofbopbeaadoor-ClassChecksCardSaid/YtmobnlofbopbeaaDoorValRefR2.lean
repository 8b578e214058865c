/- The document's own answer for values: Right. -/
import Derived.Test.YtmobnlofbopbeaaDoorValRefR
namespace Go.Proofs.YtmobnlofbopbeaaDoor.Val
open Go.RowKit
open Kit (ret_int ret_bool)

attribute [local go_sem] Oper.semAt_some

set_option maxRecDepth 100000 in
set_option maxHeartbeats 4000000 in
theorem refRight_flat (x : Vl) (hs : x.s.size ≤ 140737488351232) (h5 : x.k ≠ 5) (B : Nat) (w : World) (v : Value) (hr : Rep B w x v) :
    Calls Tryd.prog 22 #[v] w fun e w' => e = .returned (.bool (rightF x)) ∧ Below w.heap.size w w' := by
  obtain ⟨lv, rfl, hl⟩ := rep_of hr
  obtain ⟨a1, c1, rfl, z1⟩ := hl.len
  have k5 : (x.k == 5) = false := by simpa using h5
  have hle := empty_len x.l
  have hB1 := boxed w x.k x.n x.s (.slice a1 x.l.length c1)
  have HT := Lib.hid (fun W => isText_any x.s hs W)
  have hrt := isText_rightT x.s
  unfold rightF
  rw [hle, ← hrt]
  clear hl hr h5 hle hrt
  unfold maxLen at z1
  obtain ⟨L, hL⟩ : ∃ L, L = ((x.l.length : Int) == 0) := ⟨_, rfl⟩
  have hL2 := hL.symm
  by_cases k2 : x.k = 2
  · rw [if_pos k2, hL2]
    have k2b : (x.k == 2) = true := by simpa using k2
    have k0b : (x.k == 0) = false := by simp; omega
    have k1b : (x.k == 1) = false := by simp; omega
    by_cases h60 : x.s.size ≤ 60
    all_goals
      have d60 : decide (x.s.size ≤ 60) = decide (x.s.size ≤ 60) := rfl
      cases ht : isTextB x.s
      all_goals
        rw [ht] at HT
        cases hn : x.n == 0
        all_goals
          cases L
          all_goals
            have hR := Lib.hid (show (decide (x.s.size ≤ 60)) = decide (x.s.size ≤ 60) from rfl)
            clear k2 hL d60 ht
            first
              | (have i60 : (x.s.size : Int) ≤ 60 := by omega)
              | (have i60 : ¬ (x.s.size : Int) ≤ 60 := by omega)
            go_enter Tryd.func22, Tryd.ntmps22
            go_wp2_with fail
            refine (HT.out _).mono ?_; rintro e w' ⟨rfl, rfl⟩
            go_wp2
            go_ret
            exact ⟨ret_bool (by simp [h60]), hB1⟩
  · rw [if_neg k2, hL2]
    have k2b : (x.k == 2) = false := by simpa using k2
    clear k2 HT
    obtain ⟨E, hE⟩ : ∃ E, E = x.s.data.toList.isEmpty := ⟨_, rfl⟩
    have hE2 : x.s.toList.isEmpty = E := by rw [hE, ByteArray.toList_eq]
    rw [← hE]
    by_cases k0 : x.k = 0
    · have k0b : (x.k == 0) = true := by simpa using k0
      have hN : rightN x.k x.n = (x.n == 0) := by unfold rightN; rw [if_pos k0]
      rw [hN]
      clear k0 hN hL hE
      cases hn : x.n == 0 <;> cases E <;> cases L
      all_goals
        go_enter Tryd.func22, Tryd.ntmps22
        go_wp2
        go_ret
        exact ⟨ret_bool (by simp), hB1⟩
    · have k0b : (x.k == 0) = false := by simpa using k0
      by_cases k1 : x.k = 1
      · have k1b : (x.k == 1) = true := by simpa using k1
        have hN : rightN x.k x.n = (decide (-1000000000000000 ≤ x.n) && decide (x.n ≤ 1000000000000000)) := by unfold rightN; rw [if_neg k0, if_pos k1]
        rw [hN]
        clear k0 k1 hN hL hE
        rcases (show (-1000000000000000 ≤ x.n ∧ x.n ≤ 1000000000000000) ∨ (-1000000000000000 ≤ x.n ∧ ¬ x.n ≤ 1000000000000000) ∨ (¬ -1000000000000000 ≤ x.n ∧ x.n ≤ 1000000000000000) by omega) with ⟨m1, m2⟩ | ⟨m1, m2⟩ | ⟨m1, m2⟩ <;> cases E <;> cases L
        all_goals
          go_enter Tryd.func22, Tryd.ntmps22
          go_wp2
          go_ret
          exact ⟨ret_bool (by simp [m1, m2]), hB1⟩
      · have k1b : (x.k == 1) = false := by simpa using k1
        by_cases k34 : x.k = 3 ∨ x.k = 4
        · have h34 : (x.k == 3) = true ∨ ((x.k == 3) = false ∧ (x.k == 4) = true) := by rcases k34 with h | h <;> simp [h]
          have hN : rightN x.k x.n = ((decide (1 ≤ x.n) && decide (x.n ≤ 100000)) || (decide (-20 ≤ x.n) && decide (x.n ≤ -1))) := by unfold rightN; rw [if_neg k0, if_neg k1, if_pos k34]
          rw [hN]
          clear k0 k1 hN hL hE k34
          rcases (show (1 ≤ x.n ∧ x.n ≤ 100000) ∨ (1 ≤ x.n ∧ ¬ x.n ≤ 100000) ∨ (¬ 1 ≤ x.n ∧ -20 ≤ x.n ∧ x.n ≤ -1) ∨ (¬ 1 ≤ x.n ∧ -20 ≤ x.n ∧ ¬ x.n ≤ -1) ∨ (¬ 1 ≤ x.n ∧ ¬ -20 ≤ x.n) by omega) with ⟨m1, m2⟩ | ⟨m1, m2⟩ | ⟨m1, m3, m4⟩ | ⟨m1, m3, m4⟩ | ⟨m1, m3⟩
          case' inr.inl => have m3 : -20 ≤ x.n := by omega
          case' inr.inl => have m4 : ¬ x.n ≤ -1 := by omega
          all_goals
            rcases h34 with k3 | ⟨k3, k4⟩ <;> cases E <;> cases L
            all_goals
              go_enter Tryd.func22, Tryd.ntmps22
              go_wp2
              go_ret
              exact ⟨ret_bool (by first | (simp [*]; done) | (simp [*]; omega)), hB1⟩
        · have k3b : (x.k == 3) = false := by simp; omega
          have k4b : (x.k == 4) = false := by simp; omega
          have hN : rightN x.k x.n = false := by unfold rightN; rw [if_neg k0, if_neg k1, if_neg k34]
          rw [hN]
          clear k0 k1 hN hL hE k34 hE2 hL2
          go_enter Tryd.func22, Tryd.ntmps22
          go_wp2
          go_ret
          exact ⟨ret_bool (by simp), hB1⟩
end Go.Proofs.YtmobnlofbopbeaaDoor.Val
