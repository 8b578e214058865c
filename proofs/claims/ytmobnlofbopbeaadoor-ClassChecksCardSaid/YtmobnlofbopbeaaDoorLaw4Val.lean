/- Layer 4's laws: ValOf: a value of a type, of raw numbers. -/
import Derived.Test.YtmobnlofbopbeaaDoorLaw4
import Derived.Deep.RegionWith
namespace Go.Proofs.YtmobnlofbopbeaaDoor.Cls
open Go.RowKit
open Val (Vl flat flatV aggV bs pickN pickN_lt)
open Kit (Moved)

attribute [local go_sem] Oper.semAt_some

/-- The eight texts. -/
def text8 (p : Nat) : ByteArray :=
  match p with
  | 0 => ⟨#[]⟩ | 1 => ⟨#[97]⟩ | 2 => ⟨#[98, 99]⟩ | 3 => ⟨#[195, 169, 116, 195, 169]⟩ | 4 => ⟨#[97, 32, 98]⟩ | 5 => ⟨#[122, 122, 32, 116, 111, 112]⟩ | 6 => ⟨#[48]⟩ | _ => ⟨#[45, 55]⟩
/-- Of raw numbers, a value of a type that is no list's. -/
def val4 (K n : Int) (m : Nat) : Vl :=
  if K = 1 then flat 1 ((pickN n 41 : Int) - 20) ⟨#[]⟩ else if K = 2 then flat 2 0 (text8 (pickN n 8)) else if m < 1 ∨ pickN n 5 = 4 then flat 0 0 ⟨#[]⟩ else flat K (1 + (pickN n m : Int)) ⟨#[]⟩

set_option maxRecDepth 100000 in
set_option maxHeartbeats 2000000 in
theorem valOf4_flat (K O n : Int) (hK : 1 ≤ K ∧ K ≤ 4) (n1 : -9223372036854775808 ≤ n) (n2 : n ≤ 9223372036854775807) (m : Nat) (hm : m ≤ 4000000000000000) (w : World) :
    Calls Tryd.prog 19 #[.agg #[.int .i64 K, .int .i64 O], .int .i64 n, .int .i64 (m : Int)] w fun e w' => e = .returned (flatV (val4 K n m).k (val4 K n m).n (val4 K n m).s) ∧ Below w.heap.size w w' := by
  have h41 := pickN_lt n (n := 41) (by decide)
  have h8 := pickN_lt n (n := 8) (by decide)
  have HP := Lib.hid (fun (N : Nat) (h1 : 0 < N) (h2 : N ≤ 4000000000000000) W => pick4_any n n1 n2 N h1 h2 W)
  have HB := Lib.hid (fun (o1 o2 o3 : Obj) => (Kit.below_alloc2 w o1 o2).trans ((Kit.below_alloc _ o3).mono (by simp; omega)))
  unfold val4
  clear n1 n2
  rcases (show K = 1 ∨ K = 2 ∨ K = 3 ∨ K = 4 by omega) with rfl | rfl | h34
  · rw [if_pos rfl]
    have hw1 : IntKind.i64.wrap ((pickN n 41 : Int) - 20) = (pickN n 41 : Int) - 20 := by rw [IntKind.wrap_i64]; omega
    clear h8 hm hK
    go_enter Tryd.func19, Tryd.ntmps19
    go_wp2_with fail
    refine (HP.out 41 (by decide) (by decide) _).mono ?_; rintro e w' ⟨rfl, rfl⟩
    go_wp2
    exact bodyPost_ret (v := flatV 1 ((pickN n 41 : Int) - 20) ⟨#[]⟩) (by simp [results, Tryd.results19, go_sem]) rfl ⟨rfl, HB.out _ _ _⟩
  · rw [if_neg (by decide), if_pos rfl]
    have hP8 := fun W => HP.out 8 (by decide) (by decide) W
    clear h41 hm hK HP
    generalize pickN n 8 = p at *
    rcases (show p = 0 ∨ p = 1 ∨ p = 2 ∨ p = 3 ∨ p = 4 ∨ p = 5 ∨ p = 6 ∨ p = 7 by omega) with rfl | rfl | rfl | rfl | rfl | rfl | rfl | rfl
    · have HP8 := Lib.hid hP8
      clear hP8
      go_enter Tryd.func19, Tryd.ntmps19
      go_wp2_with fail
      refine (HP8.out _).mono ?_; rintro e w' ⟨rfl, rfl⟩
      go_wp2
      exact bodyPost_ret (v := flatV 2 0 (text8 0)) (by simp [results, Tryd.results19, go_sem, text8]) rfl ⟨rfl, HB.out _ _ _⟩
    · have HP8 := Lib.hid hP8
      clear hP8
      go_enter Tryd.func19, Tryd.ntmps19
      go_wp2_with fail
      refine (HP8.out _).mono ?_; rintro e w' ⟨rfl, rfl⟩
      go_wp2
      exact bodyPost_ret (v := flatV 2 0 (text8 1)) (by simp [results, Tryd.results19, go_sem, text8]) rfl ⟨rfl, HB.out _ _ _⟩
    · have HP8 := Lib.hid hP8
      clear hP8
      go_enter Tryd.func19, Tryd.ntmps19
      go_wp2_with fail
      refine (HP8.out _).mono ?_; rintro e w' ⟨rfl, rfl⟩
      go_wp2
      exact bodyPost_ret (v := flatV 2 0 (text8 2)) (by simp [results, Tryd.results19, go_sem, text8]) rfl ⟨rfl, HB.out _ _ _⟩
    · have HP8 := Lib.hid hP8
      clear hP8
      go_enter Tryd.func19, Tryd.ntmps19
      go_wp2_with fail
      refine (HP8.out _).mono ?_; rintro e w' ⟨rfl, rfl⟩
      go_wp2
      exact bodyPost_ret (v := flatV 2 0 (text8 3)) (by simp [results, Tryd.results19, go_sem, text8]) rfl ⟨rfl, HB.out _ _ _⟩
    · have HP8 := Lib.hid hP8
      clear hP8
      go_enter Tryd.func19, Tryd.ntmps19
      go_wp2_with fail
      refine (HP8.out _).mono ?_; rintro e w' ⟨rfl, rfl⟩
      go_wp2
      exact bodyPost_ret (v := flatV 2 0 (text8 4)) (by simp [results, Tryd.results19, go_sem, text8]) rfl ⟨rfl, HB.out _ _ _⟩
    · have HP8 := Lib.hid hP8
      clear hP8
      go_enter Tryd.func19, Tryd.ntmps19
      go_wp2_with fail
      refine (HP8.out _).mono ?_; rintro e w' ⟨rfl, rfl⟩
      go_wp2
      exact bodyPost_ret (v := flatV 2 0 (text8 5)) (by simp [results, Tryd.results19, go_sem, text8]) rfl ⟨rfl, HB.out _ _ _⟩
    · have HP8 := Lib.hid hP8
      clear hP8
      go_enter Tryd.func19, Tryd.ntmps19
      go_wp2_with fail
      refine (HP8.out _).mono ?_; rintro e w' ⟨rfl, rfl⟩
      go_wp2
      exact bodyPost_ret (v := flatV 2 0 (text8 6)) (by simp [results, Tryd.results19, go_sem, text8]) rfl ⟨rfl, HB.out _ _ _⟩
    · have HP8 := Lib.hid hP8
      clear hP8
      go_enter Tryd.func19, Tryd.ntmps19
      go_wp2_with fail
      refine (HP8.out _).mono ?_; rintro e w' ⟨rfl, rfl⟩
      go_wp2
      exact bodyPost_ret (v := flatV 2 0 (text8 7)) (by simp [results, Tryd.results19, go_sem, text8]) rfl ⟨rfl, HB.out _ _ _⟩
  · have e1 : ¬ K = 1 := by omega
    have e2 : ¬ K = 2 := by omega
    rw [if_neg e1, if_neg e2]
    have k1 : (K == 1) = false := beq_eq_false_iff_ne.2 e1
    have k2 : (K == 2) = false := beq_eq_false_iff_ne.2 e2
    have hk3 : ((K == 3) = true) ∨ ((K == 3) = false ∧ (K == 4) = true) := by rcases h34 with h | h <;> simp [h]
    clear h41 h8 hK e1 e2 h34
    by_cases hm1 : m < 1
    · rw [if_pos (.inl hm1)]
      have hmI : ((m : Int) < 1) = True := by simp; omega
      have hd : decide ((m : Int) < 1) = true := by simp; omega
      rcases hk3 with k3 | ⟨k3, k4⟩
      all_goals
        go_enter Tryd.func19, Tryd.ntmps19
        go_wp2_with fail
        exact bodyPost_ret (v := flatV 0 0 ⟨#[]⟩) (by simp [results, Tryd.results19, go_sem]) rfl ⟨rfl, HB.out _ _ _⟩
    · have hd : decide ((m : Int) < 1) = false := by simp; omega
      have hmI : ¬ (m : Int) < 1 := by omega
      by_cases h5 : pickN n 5 = 4
      · rw [if_pos (.inr h5)]
        have HPF := Lib.hid (fun W => h5 ▸ HP.out 5 (by decide) (by decide) W)
        clear hm h5
        rcases hk3 with k3 | ⟨k3, k4⟩
        all_goals
          go_enter Tryd.func19, Tryd.ntmps19
          go_wp2_with fail
          refine (HPF.out _).mono ?_; rintro e w' ⟨rfl, rfl⟩
          go_wp2
          exact bodyPost_ret (v := flatV 0 0 ⟨#[]⟩) (by simp [results, Tryd.results19, go_sem]) rfl ⟨rfl, HB.out _ _ _⟩
      · rw [if_neg (by omega)]
        have HPM := Lib.hid (fun W => HP.out m (by omega) hm W)
        have hlt := pickN_lt n (n := m) (by omega)
        have hp5 : ((pickN n 5 : Int) == 4) = false := beq_eq_false_iff_ne.2 (by omega)
        have hw1 : IntKind.i64.wrap (1 + (pickN n m : Int)) = 1 + (pickN n m : Int) := by rw [IntKind.wrap_i64]; omega
        have HM := Lib.hid (And.intro hm hlt)
        clear hm h5 hlt
        rcases hk3 with k3 | ⟨k3, k4⟩
        all_goals
          go_enter Tryd.func19, Tryd.ntmps19
          go_wp2_with fail
          refine (HP.out 5 (by decide) (by decide) _).mono ?_; rintro e w' ⟨rfl, rfl⟩
          go_wp2_with fail
          go_region_with (refine (HPM.out _).mono ?_; rintro e w' ⟨rfl, rfl⟩)
          all_goals
            go_wp2
            exact bodyPost_ret (v := flatV K (1 + (pickN n m : Int)) ⟨#[]⟩) (by simp [results, Tryd.results19, go_sem]) rfl ⟨rfl, (HB.out _ _ _).drew⟩
end Go.Proofs.YtmobnlofbopbeaaDoor.Cls
