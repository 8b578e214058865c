/- Layer 4's laws: ValOf: a value of a type, of raw numbers. -/
import Derived.Test.YtmobnlofbopbeaaGreatDoorLaw4
import Derived.Deep.RegionWith
import Derived.Deep.RegionHeld
import Derived.Test.YtmobnlofbopbeaaGreatDoorMI
namespace Go.Proofs.YtmobnlofbopbeaaGreatDoor.Cls
open Go.RowKit
open Val (Vl flat flatV aggV bs pickN pickN_lt)
open Kit (Moved)

attribute [local go_sem] Oper.semAt_some

/-- The eight texts. -/
def text8 (p : Nat) : ByteArray :=
  match p with
  | 0 => ⟨#[]⟩ | 1 => ⟨#[97]⟩ | 2 => ⟨#[98, 99]⟩ | 3 => ⟨#[195, 169, 116, 195, 169]⟩ | 4 => ⟨#[97, 32, 98]⟩ | 5 => ⟨#[122, 122, 32, 116, 111, 112]⟩ | 6 => ⟨#[48]⟩ | _ => ⟨#[45, 55]⟩
/-- Of raw numbers, a value of a type that is no list's. -/
def val4 (K n : Int) (m : Nat) : Vl :=
  if K = 1 then flat 1 ((pickN n 41 : Int) - 20) ⟨#[]⟩ else if K = 2 then flat 2 0 (text8 (pickN n 8)) else if m < 1 ∨ pickN n 5 = 4 then flat 0 0 ⟨#[]⟩ else flat K (1 + (pickN n m : Int)) ⟨#[]⟩

set_option maxRecDepth 100000 in
set_option maxHeartbeats 2000000 in
theorem valOf4_flat (K O n : Int) (hK : 1 ≤ K ∧ K ≤ 4) (n1 : -9223372036854775808 ≤ n) (n2 : n ≤ 9223372036854775807) (m : Nat) (hm : m ≤ 4000000000000000) (w : World) :
    Calls Tryz.prog 74 #[.agg #[.int .i64 K, .int .i64 O], .int .i64 n, .int .i64 (m : Int)] w fun e w' => e = .returned (flatV (val4 K n m).k (val4 K n m).n (val4 K n m).s) ∧ Below w.heap.size w w' := by
  have h41 := pickN_lt n (n := 41) (by decide)
  have h8 := pickN_lt n (n := 8) (by decide)
  have HP := Lib.hid (fun (N : Nat) (h1 : 0 < N) (h2 : N ≤ 4000000000000000) W => pick4_any n n1 n2 N h1 h2 W)
  have HB := Lib.hid (fun (o1 o2 o3 : Obj) => (Kit.below_alloc2 w o1 o2).trans ((Kit.below_alloc _ o3).mono (by simp; omega)))
  unfold val4
  clear n1 n2
  rcases (show K = 1 ∨ K = 2 ∨ K = 3 ∨ K = 4 by omega) with rfl | rfl | h34
  · rw [if_pos rfl]
    have hw1 : IntKind.i64.wrap ((pickN n 41 : Int) - 20) = (pickN n 41 : Int) - 20 := by rw [IntKind.wrap_i64]; omega
    clear h8 hm hK
    go_enter Tryz.func74, Tryz.ntmps74
    go_wp2_with fail
    refine (HP.out 41 (by decide) (by decide) _).mono ?_; rintro e w' ⟨rfl, rfl⟩
    go_wp2
    exact bodyPost_ret (v := flatV 1 ((pickN n 41 : Int) - 20) ⟨#[]⟩) (by simp [results, Tryz.results74, go_sem]) rfl ⟨rfl, HB.out _ _ _⟩
  · rw [if_neg (by decide), if_pos rfl]
    have hP8 := fun W => HP.out 8 (by decide) (by decide) W
    clear h41 hm hK HP
    generalize pickN n 8 = p at *
    rcases (show p = 0 ∨ p = 1 ∨ p = 2 ∨ p = 3 ∨ p = 4 ∨ p = 5 ∨ p = 6 ∨ p = 7 by omega) with rfl | rfl | rfl | rfl | rfl | rfl | rfl | rfl
    · have HP8 := Lib.hid hP8
      clear hP8
      go_enter Tryz.func74, Tryz.ntmps74
      go_wp2_with fail
      refine (HP8.out _).mono ?_; rintro e w' ⟨rfl, rfl⟩
      go_wp2
      exact bodyPost_ret (v := flatV 2 0 (text8 0)) (by simp [results, Tryz.results74, go_sem, text8]) rfl ⟨rfl, HB.out _ _ _⟩
    · have HP8 := Lib.hid hP8
      clear hP8
      go_enter Tryz.func74, Tryz.ntmps74
      go_wp2_with fail
      refine (HP8.out _).mono ?_; rintro e w' ⟨rfl, rfl⟩
      go_wp2
      exact bodyPost_ret (v := flatV 2 0 (text8 1)) (by simp [results, Tryz.results74, go_sem, text8]) rfl ⟨rfl, HB.out _ _ _⟩
    · have HP8 := Lib.hid hP8
      clear hP8
      go_enter Tryz.func74, Tryz.ntmps74
      go_wp2_with fail
      refine (HP8.out _).mono ?_; rintro e w' ⟨rfl, rfl⟩
      go_wp2
      exact bodyPost_ret (v := flatV 2 0 (text8 2)) (by simp [results, Tryz.results74, go_sem, text8]) rfl ⟨rfl, HB.out _ _ _⟩
    · have HP8 := Lib.hid hP8
      clear hP8
      go_enter Tryz.func74, Tryz.ntmps74
      go_wp2_with fail
      refine (HP8.out _).mono ?_; rintro e w' ⟨rfl, rfl⟩
      go_wp2
      exact bodyPost_ret (v := flatV 2 0 (text8 3)) (by simp [results, Tryz.results74, go_sem, text8]) rfl ⟨rfl, HB.out _ _ _⟩
    · have HP8 := Lib.hid hP8
      clear hP8
      go_enter Tryz.func74, Tryz.ntmps74
      go_wp2_with fail
      refine (HP8.out _).mono ?_; rintro e w' ⟨rfl, rfl⟩
      go_wp2
      exact bodyPost_ret (v := flatV 2 0 (text8 4)) (by simp [results, Tryz.results74, go_sem, text8]) rfl ⟨rfl, HB.out _ _ _⟩
    · have HP8 := Lib.hid hP8
      clear hP8
      go_enter Tryz.func74, Tryz.ntmps74
      go_wp2_with fail
      refine (HP8.out _).mono ?_; rintro e w' ⟨rfl, rfl⟩
      go_wp2
      exact bodyPost_ret (v := flatV 2 0 (text8 5)) (by simp [results, Tryz.results74, go_sem, text8]) rfl ⟨rfl, HB.out _ _ _⟩
    · have HP8 := Lib.hid hP8
      clear hP8
      go_enter Tryz.func74, Tryz.ntmps74
      go_wp2_with fail
      refine (HP8.out _).mono ?_; rintro e w' ⟨rfl, rfl⟩
      go_wp2
      exact bodyPost_ret (v := flatV 2 0 (text8 6)) (by simp [results, Tryz.results74, go_sem, text8]) rfl ⟨rfl, HB.out _ _ _⟩
    · have HP8 := Lib.hid hP8
      clear hP8
      go_enter Tryz.func74, Tryz.ntmps74
      go_wp2_with fail
      refine (HP8.out _).mono ?_; rintro e w' ⟨rfl, rfl⟩
      go_wp2
      exact bodyPost_ret (v := flatV 2 0 (text8 7)) (by simp [results, Tryz.results74, go_sem, text8]) rfl ⟨rfl, HB.out _ _ _⟩
  · have e1 : ¬ K = 1 := by omega
    have e2 : ¬ K = 2 := by omega
    rw [if_neg e1, if_neg e2]
    have k1 : (K == 1) = false := beq_eq_false_iff_ne.2 e1
    have k2 : (K == 2) = false := beq_eq_false_iff_ne.2 e2
    have hk3 : ((K == 3) = true) ∨ ((K == 3) = false ∧ (K == 4) = true) := by rcases h34 with h | h <;> simp [h]
    clear h41 h8 hK e1 e2 h34
    by_cases hm1 : m < 1
    · rw [if_pos (.inl hm1)]
      have hmI : ((m : Int) < 1) = True := by simp; omega
      have hd : decide ((m : Int) < 1) = true := by simp; omega
      rcases hk3 with k3 | ⟨k3, k4⟩
      all_goals
        go_enter Tryz.func74, Tryz.ntmps74
        go_wp2_with fail
        exact bodyPost_ret (v := flatV 0 0 ⟨#[]⟩) (by simp [results, Tryz.results74, go_sem]) rfl ⟨rfl, HB.out _ _ _⟩
    · have hd : decide ((m : Int) < 1) = false := by simp; omega
      have hmI : ¬ (m : Int) < 1 := by omega
      by_cases h5 : pickN n 5 = 4
      · rw [if_pos (.inr h5)]
        have HPF := Lib.hid (fun W => h5 ▸ HP.out 5 (by decide) (by decide) W)
        clear hm h5
        rcases hk3 with k3 | ⟨k3, k4⟩
        all_goals
          go_enter Tryz.func74, Tryz.ntmps74
          go_wp2_with fail
          refine (HPF.out _).mono ?_; rintro e w' ⟨rfl, rfl⟩
          go_wp2
          exact bodyPost_ret (v := flatV 0 0 ⟨#[]⟩) (by simp [results, Tryz.results74, go_sem]) rfl ⟨rfl, HB.out _ _ _⟩
      · rw [if_neg (by omega)]
        have HPM := Lib.hid (fun W => HP.out m (by omega) hm W)
        have hlt := pickN_lt n (n := m) (by omega)
        have hp5 : ((pickN n 5 : Int) == 4) = false := beq_eq_false_iff_ne.2 (by omega)
        have hw1 : IntKind.i64.wrap (1 + (pickN n m : Int)) = 1 + (pickN n m : Int) := by rw [IntKind.wrap_i64]; omega
        have HM := Lib.hid (And.intro hm hlt)
        clear hm h5 hlt
        rcases hk3 with k3 | ⟨k3, k4⟩
        all_goals
          go_enter Tryz.func74, Tryz.ntmps74
          go_wp2_with fail
          refine (HP.out 5 (by decide) (by decide) _).mono ?_; rintro e w' ⟨rfl, rfl⟩
          go_wp2_with fail
          go_region_with (refine (HPM.out _).mono ?_; rintro e w' ⟨rfl, rfl⟩)
          all_goals
            go_wp2
            exact bodyPost_ret (v := flatV K (1 + (pickN n m : Int)) ⟨#[]⟩) (by simp [results, Tryz.results74, go_sem]) rfl ⟨rfl, (HB.out _ _ _).drew⟩
end Go.Proofs.YtmobnlofbopbeaaGreatDoor.Cls
/- Layer 4's laws: ValOf of a list's type. -/
namespace Go.Proofs.YtmobnlofbopbeaaGreatDoor.Cls
open Go.RowKit
open Val (Vl Rep RepL flat flatV aggV bs pickN pickN_lt cellsF cellsF_len cellsF_one BoxF boxF_new zero4 vInfo3 Fresh repL_own end4b)
open Kit (Moved)

attribute [local go_sem] Oper.semAt_some

theorem val4_flat (K n : Int) (m : Nat) : (val4 K n m).isFlat := by
  unfold val4
  repeat' split
  all_goals rfl
/-- Of raw numbers, the values of a list. -/
def valL (O n : Int) (m k : Nat) : List Vl := (List.range k).map fun (i : Nat) => val4 O (n.tdiv 4 + (i : Int)) m
theorem valL_len (O n : Int) (m k : Nat) : (valL O n m k).length = k := by simp [valL]
theorem valL_succ (O n : Int) (m k : Nat) : valL O n m (k + 1) = valL O n m k ++ [val4 O (n.tdiv 4 + (k : Int)) m] := by unfold valL; rw [List.range_succ, List.map_append]; rfl
theorem valL_flat (O n : Int) (m k : Nat) : ∀ y ∈ valL O n m k, y.isFlat := by
  intro y hy
  obtain ⟨i, _, rfl⟩ := List.mem_map.1 hy
  exact val4_flat _ _ _
theorem newV (W : World) (z : Vl) : ∀ (j : Nat) (u : Value), (cellsF z)[j]? = some u → (W.alloc (.cells (cellsF z).toArray 30)).cell? ((⟨W.heap.size, 0, none⟩ : Addr).add j) = some u := fun j u hu => by
  rw [Addr.add_mid]
  exact Kit.cell_new W _ _ (0 + j) (by rw [Nat.zero_add, List.getElem?_toArray]; exact hu)

/-- What lies in memory while it is made. -/
structure VJ4 (w : World) (O n : Int) (m bv k : Nat) (lv : Value) (W : World) : Prop where
  t1 : W.cell? ⟨w.heap.size, 1, none⟩ = some (.int .i64 O)
  res : BoxF W (w.heap.size + 1) (.int .i64 0) (.int .i64 0) (.string ⟨#[]⟩) (.slice none 0 0)
  v : BoxF W bv (.int .i64 5) (.int .i64 0) (.string ⟨#[]⟩) lv
  row : W.ownsRow (bv + 1) 30 4 lv k ((valL O n m k).flatMap cellsF)
  nil : k = 0 → lv = .slice none 0 0
  below : Below w.heap.size w W
  lt : w.heap.size + 1 < bv
  sz : bv + 1 ≤ W.heap.size
theorem VJ4.later {w : World} {O n : Int} {m bv k : Nat} {lv : Value} {W W' : World} (h : VJ4 w O n m bv k lv W) (hB : Below W.heap.size W W') : VJ4 w O n m bv k lv W' := by
  have hz := hB.size
  have hs := h.sz
  have hl := h.lt
  exact ⟨(hB.cell (p := ⟨w.heap.size, 1, none⟩) (Kit.lt_of_cell h.t1)).trans h.t1, h.res.moved (Kit.Moved.of_below hB) (by omega), h.v.moved (Kit.Moved.of_below hB) (by omega), Kit.ownsRow_kept h.row (fun j hj => hB.block j (h.row.lt j hj).2), h.nil, h.below.trans (hB.mono h.below.size), hl, by omega⟩
theorem VJ4.slice {w : World} {O n : Int} {m bv k : Nat} {lv : Value} {W : World} (h : VJ4 w O n m bv k lv W) : ∃ a c, lv = .slice a k c := by
  rcases h.row.2 with ⟨h1, h2⟩ | ⟨g, cap, cur, h1, _⟩
  · exact ⟨none, 0, by rw [h1, h2]⟩
  · exact ⟨_, _, h1⟩
/-- One more is appended, and the list set. -/
theorem VJ4.push {w : World} {O n : Int} {m bv k : Nat} {lv v' : Value} {W w6 : World} (h : VJ4 w O n m bv k lv W) (hg : W.grownBy w6 lv.ownBlock)
    (hown : w6.ownsRow (bv + 1) 30 4 v' (k + 1) ((valL O n m k).flatMap cellsF ++ cellsF (val4 O (n.tdiv 4 + (k : Int)) m))) : VJ4 w O n m bv (k + 1) v' (w6.setCell ⟨bv, 3, none⟩ v') := by
  have hm : Moved (fun j => bv + 1 ≤ j) W w6 := (Kit.Moved.of_grownBy hg).mono fun j _ hj => (h.row.lt j hj).1
  have hms : Moved (fun j => j = bv) w6 (w6.setCell ⟨bv, 3, none⟩ v') := Kit.Moved.setCell _ _ _ _ rfl
  have hmt : Moved (fun j => bv ≤ j) W (w6.setCell ⟨bv, 3, none⟩ v') := (hm.mono (T := fun j => bv ≤ j) (fun j _ hj => by omega)).trans hms (fun j _ hj => by omega)
  have hsz := h.sz
  have hlt := h.lt
  have hz6 := hmt.size
  refine ⟨Val.cell_moved h.t1 hmt (by omega), h.res.moved hmt (by omega), (h.v.moved hm (by omega)).set3 v', ?_, fun h => by omega, h.below.trans (hmt.below (fun j hj => by omega) (by omega)), hlt, by omega⟩
  rw [valL_succ, List.flatMap_append]
  refine Kit.ownsRow_kept (xs := (valL O n m k).flatMap cellsF ++ [val4 O (n.tdiv 4 + (k : Int)) m].flatMap cellsF) (by simpa using hown) fun j hj => hms.block j (hown.lt j hj).2 (by have := (hown.lt j hj).1; omega)

abbrev textsV : Array Value := #[.string ⟨#[]⟩, .string ⟨#[97]⟩, .string ⟨#[98, 99]⟩, .string ⟨#[195, 169, 116, 195, 169]⟩, .string ⟨#[97, 32, 98]⟩, .string ⟨#[122, 122, 32, 116, 111, 112]⟩, .string ⟨#[48]⟩, .string ⟨#[45, 55]⟩]
theorem VJ4.begins (w : World) (O n : Int) (m : Nat) (T : TypeId) : VJ4 w O n m (w.heap.size + 1 + 1 + 1) 0 (.slice none 0 0)
    ((((w.alloc (.cells #[.int .i64 5, .int .i64 O] 26)).alloc (.cells #[.int .i64 0, .int .i64 0, .string ⟨#[]⟩, .slice none 0 0] 30)).alloc (.cells textsV T)).alloc (.cells #[.int .i64 5, .int .i64 0, .string ⟨#[]⟩, .slice none 0 0] 30)) := by
  have hr := boxF_new (w.alloc (.cells #[.int .i64 5, .int .i64 O] 26)) (.int .i64 0) (.int .i64 0) (.string ⟨#[]⟩) (.slice none 0 0) 30
  have hv := boxF_new (((w.alloc (.cells #[.int .i64 5, .int .i64 O] 26)).alloc (.cells #[.int .i64 0, .int .i64 0, .string ⟨#[]⟩, .slice none 0 0] 30)).alloc (.cells textsV T)) (.int .i64 5) (.int .i64 0) (.string ⟨#[]⟩) (.slice none 0 0) 30
  simp only [World.size_alloc] at hr hv
  refine ⟨Kit.cell_kept _ (Kit.cell_kept _ (Kit.cell_kept _ (Kit.cell_new w #[.int .i64 5, .int .i64 O] 26 1 rfl))), (hr.alloc _).alloc _, hv, World.ownsRow_nil _ _ _ _, fun _ => rfl, ?_, by omega, by simp⟩
  exact ((Kit.below_alloc2 w _ _).alloc (by simp; omega) _).alloc (by simp; omega) _

def ValPost (w : World) (K n : Int) (s : ByteArray) (l : List Vl) (e : Ending) (w' : World) : Prop := (∃ lv, e = .returned (aggV K n s lv) ∧ RepL w'.heap.size w' l lv ∧ Fresh w.heap.size lv) ∧ Below w.heap.size w w'

set_option maxRecDepth 100000 in
set_option maxHeartbeats 8000000 in
theorem valOf4_list (O n : Int) (hO : 1 ≤ O ∧ O ≤ 4) (n1 : -9223372036854775808 ≤ n) (n2 : n ≤ 9223372036854775807) (m : Nat) (hm : m ≤ 4000000000000000) (w : World) :
    Calls Tryz.prog 74 #[.agg #[.int .i64 5, .int .i64 O], .int .i64 n, .int .i64 (m : Int)] w (ValPost w 5 0 ⟨#[]⟩ (valL O n m (pickN n 4))) := by
  have h4 := pickN_lt n (n := 4) (by decide)
  have HP := Lib.hid (fun W => pick4_any n n1 n2 4 (by decide) (by decide) W)
  obtain ⟨hq1, hq2⟩ : -2305843009213693952 ≤ n.tdiv 4 ∧ n.tdiv 4 ≤ 2305843009213693951 := by
    rcases Int.le_total 0 n with h | h
    · rw [Int.tdiv_eq_ediv_of_nonneg h]; omega
    · have h2 := Int.neg_tdiv (-n) 4
      rw [Int.neg_neg] at h2
      rw [h2, Int.tdiv_eq_ediv_of_nonneg (by omega)]; omega
  have hwq : IntKind.i64.wrap (n.tdiv 4) = n.tdiv 4 := by rw [IntKind.wrap_i64]; omega
  obtain ⟨q, hq⟩ : ∃ q, q = n.tdiv 4 := ⟨_, rfl⟩
  have HQ := Lib.hid (And.intro hq (And.intro hq1 hq2))
  have HV := Lib.hid (fun (k : Nat) (hk : k < 4) W => valOf4_flat O 0 (q + (k : Int)) hO (by omega) (by omega) m hm W)
  rw [← hq] at hwq
  have hdq : n.tdiv 4 = q := hq.symm
  have J0 := Lib.hid (VJ4.begins w O n m 9)
  generalize pickN n 4 = P at *
  obtain ⟨i0, hi0, hz0, hz1, hz2⟩ := info_parts vInfo3
  clear n1 n2 hq hq1 hq2 hm hO
  go_enter Tryz.func74, Tryz.ntmps74
  go_upto_region 13 with fail
  generalize (((w.alloc (.cells #[.int .i64 5, .int .i64 O] 26)).alloc (.cells #[.int .i64 0, .int .i64 0, .string ⟨#[]⟩, .slice none 0 0] 30)).alloc (.cells textsV 9)).alloc (.cells #[.int .i64 5, .int .i64 0, .string ⟨#[]⟩, .slice none 0 0] 30) = W2 at *
  generalize w.heap.size + 1 + 1 + 1 = bv at *
  go_wp2_with fail
  go_loopw [9] (fun i wr => ∃ (k : Nat) (lv : Value), k ≤ P ∧ i = .int .i64 k ∧ VJ4 w O n m bv k lv wr) (fun i _ => 4 - (intOf i).toNat)
  case atStart => exact ⟨0, _, by omega, rfl, J0.out⟩
  case round =>
    obtain ⟨k, lv, hkP, rfl, hJ⟩ := hrel
    obtain ⟨a1, c1, rfl⟩ := hJ.slice
    have J1 := Lib.hid hJ
    clear J0 hJ
    by_cases hc : k < P
    · have hk4 : k < 4 := by omega
      have i1 : (k : Int) < (P : Int) := by omega
      have hwk : IntKind.i64.wrap (q + (k : Int)) = q + (k : Int) := by have := HQ.out; rw [IntKind.wrap_i64]; omega
      obtain ⟨z, hz⟩ : ∃ z, z = val4 O (q + (k : Int)) m := ⟨_, rfl⟩
      have hv1 := fun W => HV.out k hk4 W
      rw [← hz] at hv1
      have HFit := Lib.hid hv1
      have HZ := Lib.hid hz
      clear hz hv1
      go_wp2_with fail
      refine (HP.out _).mono ?_; rintro e W1 ⟨rfl, rfl⟩
      go_upto_region 16 with fail
      refine wp_region_held_drew (S := fun W => W.cell? ⟨w.heap.size, 1, none⟩ = some (.int .i64 O)) (by kernel_rfl) J1.out.t1 (fun hHeld => ?_)
      have J2 := Lib.hid (J1.out.later (W' := wr.drew) ((Below.refl _ _).drew))
      clear J1
      have J1 := J2
      clear J2
      generalize wr.drew = W4 at *
      refine wpAnyH_take (i := 0) (v := .pointer (some ⟨bv, 3, none⟩)) Kit.at0 (by kernel_rfl) (by kernel_rfl) (by kernel_rfl) (fun _ _ _ h => h) (Or.inl ⟨by rfl, fun w hw => ?_⟩) hHeld ?_
      case' refine_1 => go_simp
      try simp only [Act.put, List.setIfInBounds_toArray, List.set_cons_zero, List.set_cons_succ]
      refine wpAnyH_take (i := 2) (v := .pointer (some ⟨w.heap.size, 1, none⟩)) Kit.at2 (by kernel_rfl) (by kernel_rfl) (by kernel_rfl) (fun _ _ _ h => h) (Or.inl ⟨by rfl, fun w hw => ?_⟩) hHeld ?_
      case' refine_1 => go_simp
      try simp only [Act.put, List.setIfInBounds_toArray, List.set_cons_zero, List.set_cons_succ]
      refine wpAnyH_take (i := 3) (v := .int .i64 O) Kit.at3 (by kernel_rfl) (by kernel_rfl) (by kernel_rfl) (fun _ _ _ h => h) (Or.inl ⟨by rfl, fun w hw => ?_⟩) hHeld ?_
      case' refine_1 => go_simp
      try simp only [Act.put, List.setIfInBounds_toArray, List.set_cons_zero, List.set_cons_succ]
      refine wpAnyH_take (i := 4) (v := .agg #[.int .i64 O, .int .i64 0]) Kit.at4 (by kernel_rfl) (by kernel_rfl) (by kernel_rfl) (fun _ _ _ h => h) (Or.inl ⟨by rfl, fun w hw => ?_⟩) hHeld ?_
      case' refine_1 => go_simp
      try simp only [Act.put, List.setIfInBounds_toArray, List.set_cons_zero, List.set_cons_succ]
      refine wpAnyH_take (i := 5) (v := .int .i64 n) Kit.at5 (by kernel_rfl) (by kernel_rfl) (by kernel_rfl) (fun _ _ _ h => h) (Or.inl ⟨by rfl, fun w hw => ?_⟩) hHeld ?_
      case' refine_1 => go_simp
      try simp only [Act.put, List.setIfInBounds_toArray, List.set_cons_zero, List.set_cons_succ]
      refine wpAnyH_take (i := 6) (v := .int .i64 q) Kit.at6 (by kernel_rfl) (by kernel_rfl) (by kernel_rfl) (fun _ _ _ h => h) (Or.inl ⟨by rfl, fun w hw => ?_⟩) hHeld ?_
      case' refine_1 => go_simp
      try simp only [Act.put, List.setIfInBounds_toArray, List.set_cons_zero, List.set_cons_succ]
      refine wpAnyH_take (i := 7) (v := .int .i64 (k : Int)) Kit.at7 (by kernel_rfl) (by kernel_rfl) (by kernel_rfl) (fun _ _ _ h => h) (Or.inl ⟨by rfl, fun w hw => ?_⟩) hHeld ?_
      case' refine_1 => go_simp
      try simp only [Act.put, List.setIfInBounds_toArray, List.set_cons_zero, List.set_cons_succ]
      refine wpAnyH_take (i := 8) (v := .int .i64 (q + (k : Int))) Kit.at8 (by kernel_rfl) (by kernel_rfl) (by kernel_rfl) (fun _ _ _ h => h) (Or.inl ⟨by rfl, fun w hw => ?_⟩) hHeld ?_
      case' refine_1 => go_simp
      try simp only [Act.put, List.setIfInBounds_toArray, List.set_cons_zero, List.set_cons_succ]
      refine wpAnyH_take (i := 9) (v := .int .i64 (m : Int)) Kit.at9 (by kernel_rfl) (by kernel_rfl) (by kernel_rfl) (fun _ _ _ h => h) (Or.inl ⟨by rfl, fun w hw => ?_⟩) hHeld ?_
      case' refine_1 => go_simp
      try simp only [Act.put, List.setIfInBounds_toArray, List.set_cons_zero, List.set_cons_succ]
      refine wpAnyH_ready (rs := [1, 10]) (by kernel_rfl) (by simp) ?_
      refine AllReadyH.cons Kit.at1 (fun K0 hK => ?t1) (AllReadyH.cons Kit.at10 (fun K0 hK => ?t10) AllReadyH.nil)
      case' t1 =>
        have q1 := J1.out.v.c.2.2.2
        go_simp
        refine hK.out _ _ J1.out.t1 (fun hHeld => ?_)
        clear hK K0 q1
        try simp only [Act.put, List.setIfInBounds_toArray, List.set_cons_zero, List.set_cons_succ]
        refine wpAnyH_ready (rs := [10]) (by kernel_rfl) (by simp) ?_
        refine AllReadyH.cons Kit.at10 (fun K0 hK => ?_) AllReadyH.nil
        go_simp
        refine (HFit.out _).mono ?_; rintro e Wc ⟨rfl, hBc⟩
        have Jc := Lib.hid (J1.out.later hBc)
        refine hK.out _ _ Jc.out.t1 (fun hHeld => ?_)
        clear hK K0 hBc J1
        try simp only [Act.put, List.setIfInBounds_toArray, List.set_cons_zero, List.set_cons_succ]
        refine wpAnyH_ready (rs := [11]) (by kernel_rfl) (by simp) ?_
        refine AllReadyH.cons Kit.at11 (fun K0 hK => ?_) AllReadyH.nil
        have Jb := Lib.hid (Jc.out.later (Kit.below_alloc Wc (.cells (cellsF z).toArray 30)))
        have Cb := Lib.hid (newV Wc z)
        refine Kit.step_buildSlice_one rfl 28 30 _ rfl (cellsF z) rfl i0 _ Tryz.underlying28 hi0 hz0 (hz1.trans rfl) (by rw [cellsF_len]; decide) (by rw [cellsF_len]; decide) ?_
        refine hK.out _ _ Jb.out.t1 (fun hHeld => ?_)
        clear hK K0 Jc
        try simp only [Act.put, List.setIfInBounds_toArray, List.set_cons_zero, List.set_cons_succ]
        generalize Wc.alloc (.cells (cellsF z).toArray 30) = Wb at *
        generalize Wc.heap.size = T at *
        obtain ⟨J5, C5⟩ : Hid (VJ4 w O n m bv k (.slice a1 k c1) Wb) ∧ Hid (∀ (j : Nat) (u : Value), (cellsF z)[j]? = some u → Wb.cell? ((⟨T, 0, none⟩ : Addr).add j) = some u) := ⟨Jb, Cb⟩
        clear Jb Cb
        generalize Wb = W5 at *
      case' t10 =>
        go_simp
        refine (HFit.out _).mono ?_; rintro e Wc ⟨rfl, hBc⟩
        have Jc := Lib.hid (J1.out.later hBc)
        refine hK.out _ _ Jc.out.t1 (fun hHeld => ?_)
        clear hK K0 hBc J1
        try simp only [Act.put, List.setIfInBounds_toArray, List.set_cons_zero, List.set_cons_succ]
        refine wpAnyH_ready (rs := [1, 11]) (by kernel_rfl) (by simp) ?_
        refine AllReadyH.cons Kit.at1 (fun K0 hK => ?ta) (AllReadyH.cons Kit.at11 (fun K0 hK => ?tb) AllReadyH.nil)
        case' ta =>
          have q1 := Jc.out.v.c.2.2.2
          go_simp
          refine hK.out _ _ Jc.out.t1 (fun hHeld => ?_)
          clear hK K0 q1
          try simp only [Act.put, List.setIfInBounds_toArray, List.set_cons_zero, List.set_cons_succ]
          refine wpAnyH_ready (rs := [11]) (by kernel_rfl) (by simp) ?_
          refine AllReadyH.cons Kit.at11 (fun K0 hK => ?_) AllReadyH.nil
          have Jb := Lib.hid (Jc.out.later (Kit.below_alloc Wc (.cells (cellsF z).toArray 30)))
          have Cb := Lib.hid (newV Wc z)
          refine Kit.step_buildSlice_one rfl 28 30 _ rfl (cellsF z) rfl i0 _ Tryz.underlying28 hi0 hz0 (hz1.trans rfl) (by rw [cellsF_len]; decide) (by rw [cellsF_len]; decide) ?_
          refine hK.out _ _ Jb.out.t1 (fun hHeld => ?_)
          clear hK K0 Jc
          try simp only [Act.put, List.setIfInBounds_toArray, List.set_cons_zero, List.set_cons_succ]
          generalize Wc.alloc (.cells (cellsF z).toArray 30) = Wb at *
          generalize Wc.heap.size = T at *
          obtain ⟨J5, C5⟩ : Hid (VJ4 w O n m bv k (.slice a1 k c1) Wb) ∧ Hid (∀ (j : Nat) (u : Value), (cellsF z)[j]? = some u → Wb.cell? ((⟨T, 0, none⟩ : Addr).add j) = some u) := ⟨Jb, Cb⟩
          clear Jb Cb
          generalize Wb = W5 at *
        case' tb =>
          have Jb := Lib.hid (Jc.out.later (Kit.below_alloc Wc (.cells (cellsF z).toArray 30)))
          have Cb := Lib.hid (newV Wc z)
          refine Kit.step_buildSlice_one rfl 28 30 _ rfl (cellsF z) rfl i0 _ Tryz.underlying28 hi0 hz0 (hz1.trans rfl) (by rw [cellsF_len]; decide) (by rw [cellsF_len]; decide) ?_
          refine hK.out _ _ Jb.out.t1 (fun hHeld => ?_)
          clear hK K0 Jc
          try simp only [Act.put, List.setIfInBounds_toArray, List.set_cons_zero, List.set_cons_succ]
          generalize Wc.alloc (.cells (cellsF z).toArray 30) = Wb at *
          generalize Wc.heap.size = T at *
          refine wpAnyH_ready (rs := [1]) (by kernel_rfl) (by simp) ?_
          refine AllReadyH.cons Kit.at1 (fun K0 hK => ?_) AllReadyH.nil
          have q1 := Jb.out.v.c.2.2.2
          go_simp
          refine hK.out _ _ Jb.out.t1 (fun hHeld => ?_)
          clear hK K0 q1
          try simp only [Act.put, List.setIfInBounds_toArray, List.set_cons_zero, List.set_cons_succ]
          obtain ⟨J5, C5⟩ : Hid (VJ4 w O n m bv k (.slice a1 k c1) Wb) ∧ Hid (∀ (j : Nat) (u : Value), (cellsF z)[j]? = some u → Wb.cell? ((⟨T, 0, none⟩ : Addr).add j) = some u) := ⟨Jb, Cb⟩
          clear Jb Cb
          generalize Wb = W5 at *
      all_goals
        refine wpAnyH_ready (rs := [12]) (by kernel_rfl) (by simp) ?_
        refine AllReadyH.cons Kit.at12 (fun K0 hK => ?_) AllReadyH.nil
        refine Kit.step_append_own_at rfl _ _ 28 rfl (bv + 1) 30 i0 (.agg zero4.toArray) 4 56 Tryz.underlying28 hi0 hz0 hz1 hz2 rfl (by decide) (.slice a1 k c1) k ((valL O n m k).flatMap cellsF) rfl J5.out.row ⟨T, 0, none⟩ 1 1 (cellsF z) rfl (cellsF_len z) C5.out (cellsF_one z) (by unfold maxLen; omega) (by omega) J5.out.sz ?_
        intro v' w6 hown' hgrow hat
        obtain ⟨g, cap, rfl, hgb, hgl⟩ := Kit.ownsRow_succ' hown'
        have hm6 : Moved (fun j => bv + 1 ≤ j) W5 w6 := (Kit.Moved.of_grownBy hgrow).mono fun j _ hj => (J5.out.row.lt j hj).1
        have hsz5 := J5.out.sz
        have hlt5 := J5.out.lt
        have S6 := Lib.hid (Val.cell_moved J5.out.t1 hm6 (by omega))
        have x3 := Val.cell_moved J5.out.v.c.2.2.2 hm6 (by omega)
        have y3 := (J5.out.v.moved hm6 (by omega)).f 3
        rw [HZ.out, HQ.out.1] at hown'
        have P6 := Lib.hid (J5.out.push hgrow hown')
        clear hown' hgrow hat hgb hgl hm6
        refine hK.out _ _ S6.out (fun hHeld => ?_)
        clear hK K0
        try simp only [Act.put, List.setIfInBounds_toArray, List.set_cons_zero, List.set_cons_succ]
        refine wpAnyH_take (i := 13) (v := .pointer (some ⟨bv, 3, none⟩)) Kit.at13 (by kernel_rfl) (by kernel_rfl) (by kernel_rfl) (fun _ _ _ h => h) (Or.inl ⟨by rfl, fun w hw => ?_⟩) hHeld ?_
        case' refine_1 => go_simp
        try simp only [Act.put, List.setIfInBounds_toArray, List.set_cons_zero, List.set_cons_succ]
        refine wpAnyH_ready (rs := [14]) (by kernel_rfl) (by simp) ?_
        refine AllReadyH.cons Kit.at14 (fun K0 hK => ?_) AllReadyH.nil
        go_simp
        refine hK.out _ _ P6.out.t1 (fun _ => wpAnyH_done (by kernel_rfl) ?_ _)
        clear hK K0
        go_wp2
        go_roundw
        case rel => exact ⟨k + 1, .slice (some ⟨g, 0, none⟩) (k + 1) cap, by omega, by go_num, P6.out⟩
        case measure => simp [intOf]; omega
    · have hkk : k = P := by omega
      subst hkk
      have i1 : ¬ (k : Int) < (k : Int) := by omega
      obtain ⟨⟨x0, x1, x2, x3⟩, xf⟩ := J1.out.v
      obtain ⟨⟨y0, y1, y2, y3⟩, yf⟩ := J1.out.res
      have yf0 := yf 0
      have yf1 := yf 1
      have yf2 := yf 2
      have yf3 := yf 3
      have hlt := J1.out.lt
      have hm4 := end4b (w.heap.size + 1) wr (.int .i64 5) (.int .i64 0) (.string ⟨#[]⟩) (.slice a1 k c1)
      clear xf yf hc
      go_wp2_with fail
      refine (HP.out _).mono ?_; rintro e W1 ⟨rfl, rfl⟩
      go_wp2
      refine bodyPost_ret (v := aggV 5 0 ⟨#[]⟩ (.slice a1 k c1)) (by simp [results, Tryz.results74, go_sem, y0, y1, y2, y3]) rfl ⟨⟨.slice a1 k c1, rfl, ?_, ?_⟩, ?_⟩
      · refine repL_own (e := 30) (base := bv + 1) (Kit.ownsRow_kept J1.out.row fun j hj => ?_) (valL_len _ _ _ _).symm (valL_flat _ _ _ _) J1.out.nil
        have hj2 := J1.out.row.lt j hj
        exact hm4.block j hj2.2 (by omega)
      · intro j h2
        have := (J1.out.row.lt j h2).1
        omega
      · exact J1.out.below.trans (hm4.below (fun j hj => by omega) (by have := J1.out.sz; omega))
end Go.Proofs.YtmobnlofbopbeaaGreatDoor.Cls
/- Layer 4's laws: ValsOf: values of a class. -/
namespace Go.Proofs.YtmobnlofbopbeaaGreatDoor.Cls
open Go.RowKit
open Val (Vl Rep RepL flat flatV aggV bs pickN pickN_lt cellsF zero4 vInfo3 Fresh cellsV)
open Kit (Moved)

attribute [local go_sem] Oper.semAt_some

/-- Of raw numbers, a value of a type. -/
def valF (K O n : Int) (m : Nat) : Vl := if K = 5 then .mk 5 0 ⟨#[]⟩ (valL O n m (pickN n 4)) else val4 K n m
theorem valF_flat (K O n : Int) (m : Nat) : ∀ y ∈ (valF K O n m).l, y.isFlat := by
  unfold valF
  split
  · exact valL_flat _ _ _ _
  · intro y hy
    rw [show (val4 K n m).l = [] from val4_flat K n m] at hy
    cases hy
theorem valF_any (K O n : Int) (hr : Val.rightTy K O = true) (n1 : -9223372036854775808 ≤ n) (n2 : n ≤ 9223372036854775807) (m : Nat) (hm : m ≤ 4000000000000000) (w : World) :
    Calls Tryz.prog 74 #[.agg #[.int .i64 K, .int .i64 O], .int .i64 n, .int .i64 (m : Int)] w (ValPost w (valF K O n m).k (valF K O n m).n (valF K O n m).s (valF K O n m).l) := by
  unfold Val.rightTy Val.inK at hr
  unfold valF
  by_cases h5 : K = 5
  · subst h5
    rw [if_pos rfl] at hr ⊢
    simp at hr
    exact valOf4_list O n (by omega) n1 n2 m hm w
  · rw [if_neg h5] at hr ⊢
    simp at hr
    refine (valOf4_flat K O n (by omega) n1 n2 m hm w).mono fun e w' ⟨he, hB⟩ => ⟨⟨.slice none 0 0, he, .inl ⟨val4_flat K n m, rfl⟩, fun j hj => by cases hj⟩, hB⟩

/-- A value, and where its list lies. -/
abbrev cellsP (p : Vl × Value) : List Value := cellsV p.1.k p.1.n p.1.s p.2
theorem cellsP_len : ∀ l : List (Vl × Value), (l.flatMap cellsP).length = l.length * 4
  | [] => rfl
  | x :: r => by rw [List.flatMap_cons, List.length_append, cellsP_len r, List.length_cons]; simp; omega
theorem repC_pairs {B : Nat} {w : World} {b : Nat} : ∀ (l : List (Vl × Value)) (o : Nat), (∀ p ∈ l, RepL B w p.1.l p.2) → w.rangeAt b o (l.flatMap cellsP) → Val.RepC B w b o (l.map (·.1))
  | [], _, _, _ => Val.repC_nil
  | p :: r, o, hf, h => by
    rw [List.flatMap_cons] at h
    rw [List.map_cons, Val.repC_cons]
    refine ⟨⟨_, Val.rep_in (hf p (by simp)), ?_⟩, repC_pairs r (o + 4) (fun q hq => hf q (by simp [hq])) ?_⟩
    · intro j v hv
      refine h j v ?_
      have hj : j < 4 := (List.getElem?_eq_some_iff.1 hv).1
      rw [List.getElem?_append_left (by simp; omega)]
      exact hv
    · intro j v hv
      have := h (4 + j) v (by rw [List.getElem?_append_right (by simp), show (cellsP p).length = 4 from rfl, Nat.add_sub_cancel_left]; exact hv)
      rw [← Nat.add_assoc] at this
      exact this
theorem repL_pairs {w : World} {base e n : Nat} {v : Value} {l : List (Vl × Value)} (h : w.ownsRow base e 4 v n (l.flatMap cellsP)) (hn : n = l.length) (hf : ∀ p ∈ l, RepL w.heap.size w p.1.l p.2) (hz : n = 0 → v = .slice none 0 0) : RepL w.heap.size w (l.map (·.1)) v := by
  subst hn
  by_cases h0 : l = []
  · left; exact ⟨by simp [h0], hz (by simp [h0])⟩
  · rcases h.2 with ⟨h1, h2⟩ | ⟨g, cap, cur, h1, h2⟩
    · exact absurd (List.length_eq_zero_iff.1 (by omega)) h0
    · right
      have hl := h.lt g (by rw [h1]; rfl)
      refine ⟨g, 0, cap, hl.2, by simpa using h0, by rw [List.length_map]; exact h1, by rw [List.length_map]; exact h2.2.2.1, h2.2.2.2.1, repC_pairs l 0 hf fun j u hu => ?_⟩
      have := h.cells (g := g) (by rw [h1]; rfl) j u hu
      rw [Addr.add_mid] at this
      exact this

/-- A list of numbers lies in memory. -/
def IntsL (w : World) (l : List Int) (v : Value) : Prop :=
  (l = [] ∧ ∃ a c, v = .slice a 0 c) ∨ ∃ b o c, v = .slice (some ⟨b, o, none⟩) l.length c ∧ l.length ≤ maxLen ∧ b < w.heap.size ∧ ∀ i x, l[i]? = some x → w.cell? ⟨b, o + i, none⟩ = some (.int .i64 x)
theorem IntsL.len {w : World} {l : List Int} {v : Value} (h : IntsL w l v) : ∃ a c, v = .slice a l.length c ∧ l.length ≤ maxLen := by
  rcases h with ⟨rfl, a, c, h⟩ | ⟨b, o, c, h, h2, _⟩
  · exact ⟨a, c, h, Nat.zero_le _⟩
  · exact ⟨_, c, h, h2⟩
theorem IntsL.below {w w' : World} {l : List Int} {v : Value} (h : IntsL w l v) (hB : Below w.heap.size w w') : IntsL w' l v := by
  rcases h with h | ⟨b, o, c, h1, h2, h3, h4⟩
  · exact .inl h
  · exact .inr ⟨b, o, c, h1, h2, Nat.lt_of_lt_of_le h3 hB.size, fun i x hx => (hB.cell (p := ⟨b, o + i, none⟩) h3).trans (h4 i x hx)⟩
theorem w64 (y : Int) : wrap64 y = IntKind.i64.wrap y := by rw [IntKind.wrap_i64]; unfold wrap64; simp
/-- The raw number of a field. -/
def nOf (l : List Int) (i : Nat) : Int := if l = [] then (i : Int) else IntKind.i64.wrap (l.getD (i % l.length) 0 + (i : Int))
theorem nOf_range (l : List Int) (i : Nat) (hi : i ≤ 1000) : -9223372036854775808 ≤ nOf l i ∧ nOf l i ≤ 9223372036854775807 := by
  unfold nOf
  split
  · omega
  · rw [IntKind.wrap_i64]; omega
def valsK (fs : List Fd) (l : List Int) (m k : Nat) : List Vl := (List.range k).map fun i => valF (fs.getD i ⟨⟨#[]⟩, 1, 0, false⟩).k (fs.getD i ⟨⟨#[]⟩, 1, 0, false⟩).o (nOf l i) m
/-- Values of a class. -/
def valsOf (fs : List Fd) (l : List Int) (m : Nat) : List Vl := valsK fs l m fs.length
theorem valsK_succ {fs : List Fd} {l : List Int} {m k : Nat} {f : Fd} (h : fs[k]? = some f) : valsK fs l m (k + 1) = valsK fs l m k ++ [valF f.k f.o (nOf l k) m] := by
  unfold valsK
  rw [List.range_succ, List.map_append]
  have : fs.getD k ⟨⟨#[]⟩, 1, 0, false⟩ = f := by rw [List.getD_eq_getElem?_getD, h]; rfl
  simp only [List.map_cons, List.map_nil, this]
theorem valsK_len (fs : List Fd) (l : List Int) (m k : Nat) : (valsK fs l m k).length = k := by simp [valsK]

/-- What stands in the round. -/
structure VsJ (w : World) (fs : List Fd) (cv : Value) (l : List Int) (m k : Nat) (out : Value) (ps : List (Vl × Value)) (W : World) : Prop where
  c1 : W.cell? ⟨w.heap.size, 1, none⟩ = some cv
  row : W.ownsRow (w.heap.size + 1) 30 4 out k (ps.flatMap cellsP)
  len : k = ps.length
  vals : ps.map (·.1) = valsK fs l m k
  each : ∀ p ∈ ps, (∀ y ∈ p.1.l, y.isFlat) ∧ RepL W.heap.size W p.1.l p.2 ∧ ∀ j, p.2.ownBlock = some j → w.heap.size + 1 ≤ j ∧ out.ownBlock ≠ some j
  nil : k = 0 → out = .slice none 0 0
  below : Below w.heap.size w W
  sz : w.heap.size + 1 ≤ W.heap.size
theorem VsJ.later {w : World} {fs : List Fd} {cv : Value} {l : List Int} {m k : Nat} {out : Value} {ps : List (Vl × Value)} {W W' : World} (h : VsJ w fs cv l m k out ps W) (hB : Below W.heap.size W W') : VsJ w fs cv l m k out ps W' := by
  have hs := h.sz
  have hz := hB.size
  exact ⟨(hB.cell (p := ⟨w.heap.size, 1, none⟩) (Kit.lt_of_cell h.c1)).trans h.c1, Kit.ownsRow_kept h.row (fun j hj => hB.block j (h.row.lt j hj).2), h.len, h.vals, fun p hp => ⟨(h.each p hp).1, ((h.each p hp).2.1.below hB (Nat.le_refl _)).mono hz, (h.each p hp).2.2⟩, h.nil, h.below.trans (hB.mono h.below.size), by omega⟩
theorem VsJ.slice {w : World} {fs : List Fd} {cv : Value} {l : List Int} {m k : Nat} {out : Value} {ps : List (Vl × Value)} {W : World} (h : VsJ w fs cv l m k out ps W) : ∃ a c, out = .slice a k c := by
  rcases h.row.2 with ⟨h1, h2⟩ | ⟨g, cap, cur, h1, _⟩
  · exact ⟨none, 0, by rw [h1, h2]⟩
  · exact ⟨_, _, h1⟩
/-- One more value is appended. -/
theorem VsJ.push {w : World} {fs : List Fd} {cv : Value} {l : List Int} {m k : Nat} {out out' : Value} {ps : List (Vl × Value)} {W w6 : World} {z : Vl} {lz : Value} {f : Fd} (h : VsJ w fs cv l m k out ps W) (hf : fs[k]? = some f) (hz : z = valF f.k f.o (nOf l k) m)
    (hr : RepL W.heap.size W z.l lz) (ho : ∀ j, lz.ownBlock = some j → w.heap.size + 1 ≤ j ∧ out.ownBlock ≠ some j) (hg : W.grownBy w6 out.ownBlock) (hown : w6.ownsRow (w.heap.size + 1) 30 4 out' (k + 1) (ps.flatMap cellsP ++ cellsP (z, lz)))
    (hat : out'.ownBlock = out.ownBlock ∨ out'.ownBlock = some W.heap.size) : VsJ w fs cv l m (k + 1) out' (ps ++ [(z, lz)]) w6 := by
  have hm : Moved (fun j => out.ownBlock = some j) W w6 := Kit.Moved.of_grownBy hg
  have hsz := h.sz
  have hz6 := hm.size
  have hkeep : ∀ (x : Vl) (lv : Value), (∀ y ∈ x.l, y.isFlat) → RepL W.heap.size W x.l lv → (∀ j, lv.ownBlock = some j → w.heap.size + 1 ≤ j ∧ out.ownBlock ≠ some j) → RepL w6.heap.size w6 x.l lv ∧ ∀ j, lv.ownBlock = some j → w.heap.size + 1 ≤ j ∧ out'.ownBlock ≠ some j := fun x lv hx h1 h2 => by
    refine ⟨h1.keep1 hx (fun j hj => hm.block j (h1.lt j hj) (h2 j hj).2) hz6, fun j hj => ⟨(h2 j hj).1, fun e => ?_⟩⟩
    rcases hat with h3 | h3
    · exact (h2 j hj).2 (h3 ▸ e)
    · rw [h3] at e
      have := h1.lt j hj
      cases e
      omega
  refine ⟨Val.cell_moved h.c1 hm (fun e => by have := (h.row.lt _ e).1; omega), ?_, by rw [List.length_append, ← h.len]; rfl, ?_, fun p hp => ?_, fun e => by omega, h.below.trans ((hm.below (B := w.heap.size) (fun j hj => by have := (h.row.lt j hj).1; omega) (by omega))), by omega⟩
  · rw [List.flatMap_append]
    simpa using hown
  · rw [List.map_append, h.vals, valsK_succ hf, hz]; rfl
  · rcases List.mem_append.1 hp with hp | hp
    · have e := h.each p hp
      exact ⟨e.1, hkeep p.1 p.2 e.1 e.2.1 e.2.2⟩
    · simp only [List.mem_singleton] at hp
      subst hp
      have hzf : ∀ y ∈ z.l, y.isFlat := by rw [hz]; exact valF_flat _ _ _ _
      exact ⟨hzf, hkeep z lz hzf hr ho⟩
theorem cellsP_one (p : Vl × Value) (h : p.2.oneCell' = true) : ∀ u ∈ cellsP p, u.oneCell' = true := by
  intro u hu
  simp only [cellsP, cellsV, List.mem_cons, List.not_mem_nil, or_false] at hu
  rcases hu with rfl | rfl | rfl | rfl
  · rfl
  · rfl
  · rfl
  · exact h
theorem VsJ.begins (w : World) (fs : List Fd) (nm : ByteArray) (cv : Value) (l : List Int) (m : Nat) : VsJ w fs cv l m 0 (.slice none 0 0) [] (w.alloc (.cells #[.string nm, cv] 56)) :=
  ⟨Kit.cell_new w #[.string nm, cv] 56 1 rfl, World.ownsRow_nil _ _ _ _, rfl, rfl, fun p hp => (by cases hp), fun _ => rfl, Kit.below_alloc _ _, by simp⟩

set_option maxRecDepth 100000 in
set_option maxHeartbeats 8000000 in
theorem valsOf_anyJ (V : Cl) (hr : ∀ f ∈ V.l, Val.rightTy f.k f.o = true) (h8 : V.l.length ≤ 8) (l : List Int) (hl : ∀ x ∈ l, -9223372036854775808 ≤ x ∧ x ≤ 9223372036854775807) (m : Nat) (hm : m ≤ 4000000000000000) (w : World) (cv lv : Value) (hc : FdL w.heap.size w V.l cv) (hi : IntsL w l lv) :
    Calls Tryz.prog 34 #[.agg #[.string V.nm, cv], lv, .int .i64 (m : Int)] w fun e w' => ∃ ov, e = .returned ov ∧ ∃ ps, VsJ w V.l cv l m V.l.length ov ps w' := by
  obtain ⟨ca, cc, rfl, -⟩ := hc.len
  obtain ⟨la, lc, rfl, hll⟩ := hi.len
  unfold maxLen at hll
  have J0 := Lib.hid (VsJ.begins w V.l V.nm (.slice ca V.l.length cc) l m)
  have HX := Lib.hid (And.intro hc (And.intro hi (And.intro hr hl)))
  obtain ⟨i0, hi0, hz0, hz1, hz2⟩ := info_parts vInfo3
  clear hc hi hr hl
  go_enter Tryz.func34, Tryz.ntmps34
  go_upto_region 1 with fail
  generalize w.alloc (.cells #[.string V.nm, .slice ca V.l.length cc] 56) = W0 at *
  go_wp2_with fail
  go_loopw [7, 8] (fun ov i wr => ∃ (k : Nat) (ps : List (Vl × Value)), k ≤ V.l.length ∧ i = .int .i64 k ∧ VsJ w V.l (.slice ca V.l.length cc) l m k ov ps wr) (fun _ i _ => V.l.length - (intOf i).toNat)
  case atStart => exact ⟨0, [], by omega, rfl, J0.out⟩
  case round =>
    obtain ⟨k, ps, hk, rfl, hJ⟩ := hrel
    obtain ⟨oa, oc, rfl⟩ := hJ.slice
    have J1 := Lib.hid hJ
    have c1 := hJ.c1
    clear J0 hJ
    by_cases hlt : k < V.l.length
    · have i1 : (k : Int) < (V.l.length : Int) := by omega
      obtain ⟨f, hf⟩ : ∃ f, V.l[k]? = some f := ⟨_, List.getElem?_eq_getElem hlt⟩
      have HF := Lib.hid hf
      obtain ⟨b, o, c, hcv, hb, -, hk1, hk2, -⟩ := HX.out.1.at hf
      cases hcv
      have hn := nOf_range l k (by omega)
      have HN := Lib.hid (show nOf l k = if l = [] then (k : Int) else IntKind.i64.wrap (l.getD (k % l.length) 0 + (k : Int)) from rfl)
      have HV := Lib.hid (fun W => valF_any f.k f.o (nOf l k) (HX.out.2.2.1 f (List.mem_of_getElem? HF.out)) hn.1 hn.2 m hm W)
      have HK := Lib.hid (fun W (h : Below w.heap.size w W) => And.intro ((h.cell (p := ⟨b, o + k * 4 + 1, none⟩) hb).trans hk1) ((h.cell (p := ⟨b, o + k * 4 + 2, none⟩) hb).trans hk2))
      obtain ⟨k1, k2⟩ := HK.out _ J1.out.below
      clear hf hk1 hk2 hb hn
      have hzf := valF_flat f.k f.o (nOf l k) m
      obtain ⟨z, hz⟩ : ∃ z, z = valF f.k f.o (nOf l k) m := ⟨_, rfl⟩
      rw [← hz] at HV hzf
      have HZ := Lib.hid (And.intro hz hzf)
      clear hz hzf
      by_cases h0 : l = []
      case' pos =>
        have hl0 : ¬ (0 : Int) < (l.length : Int) := by rw [h0]; simp
        have HN2 := Lib.hid (show nOf l k = (k : Int) by rw [HN.out, if_pos h0])
        rw [HN2.out] at HV
        clear h0 HN
        go_upto_region 8 with fail
      case' neg =>
        have hl1 : 0 < l.length := List.length_pos_iff.2 h0
        have hmod : k % l.length < l.length := Nat.mod_lt _ hl1
        obtain ⟨x, hx⟩ : ∃ x, l[k % l.length]? = some x := ⟨_, List.getElem?_eq_getElem hmod⟩
        have HN2 := Lib.hid (show nOf l k = wrap64 (x + (k : Int)) by rw [HN.out, if_neg h0, List.getD_eq_getElem?_getD, hx, w64]; rfl)
        have hcm : ((k : Int) % (l.length : Int)) = ((k % l.length : Nat) : Int) := by push_cast; rfl
        generalize k % l.length = j at *
        have hj2 : (j : Int) < (l.length : Int) := by omega
        obtain ⟨b2, o2, c2, he2, -, hb2, hi2⟩ : ∃ b o c, Value.slice la l.length lc = .slice (some ⟨b, o, none⟩) l.length c ∧ l.length ≤ maxLen ∧ b < w.heap.size ∧ ∀ i x, l[i]? = some x → w.cell? ⟨b, o + i, none⟩ = some (.int .i64 x) := by
          rcases HX.out.2.1 with ⟨h, _⟩ | h
          · exact absurd h h0
          · exact h
        cases he2
        have z1 : wr.cell? ⟨b2, o2 + j, none⟩ = some (.int .i64 x) := (J1.out.below.cell (p := ⟨b2, o2 + j, none⟩) hb2).trans (hi2 _ _ hx)
        have hl2 : ((l.length : Int) == 0) = false := beq_eq_false_iff_ne.2 (by omega)
        rw [HN2.out] at HV
        clear h0 hx hi2 hb2 HN
        go_upto_region 8 with fail
        all_goals first
          | (exfalso; omega)
          | clear hcm hj2 z1 hl2 hmod hl1
      all_goals
        go_wp2_with fail
        refine (HV.out _).mono ?_; rintro e W2 ⟨⟨lz, rfl, hrz, hfz⟩, hB2⟩
        have J2 := Lib.hid (J1.out.later hB2)
        have hso : ∀ j, (Value.slice oa k oc).ownBlock = some j → w.heap.size + 1 ≤ j ∧ j < wr.heap.size := fun j hj => J1.out.row.lt j hj
        have ho : ∀ j, lz.ownBlock = some j → w.heap.size + 1 ≤ j ∧ (Value.slice oa k oc).ownBlock ≠ some j := fun j hj => by
          have h1 := hfz j hj
          have h2 := J1.out.sz
          refine ⟨by omega, fun e => ?_⟩
          have := (hso j e).2
          omega
        have J3 := Lib.hid (J2.out.later (Kit.below_alloc W2 (.cells #[.int .i64 z.k, .int .i64 z.n, .string z.s, lz] 30)))
        have hlz : lz.oneCell' = true := by
          obtain ⟨a, c, h, -⟩ := hrz.len
          rw [h]; rfl
        have C3 := Lib.hid (show ∀ (j : Nat) (u : Value), (cellsP (z, lz))[j]? = some u → (W2.alloc (.cells #[.int .i64 z.k, .int .i64 z.n, .string z.s, lz] 30)).cell? ((⟨W2.heap.size, 0, none⟩ : Addr).add j) = some u from fun j u hu => by
          rw [Addr.add_mid]
          exact Kit.cell_new W2 _ _ (0 + j) (by rw [Nat.zero_add, ← Array.getElem?_toList]; exact hu))
        have R3 := Lib.hid (And.intro (show RepL (W2.alloc (.cells #[.int .i64 z.k, .int .i64 z.n, .string z.s, lz] 30)).heap.size (W2.alloc (.cells #[.int .i64 z.k, .int .i64 z.n, .string z.s, lz] 30)) z.l lz from (hrz.below (Kit.below_alloc W2 _) (Nat.le_refl _)).mono (by simp)) (And.intro ho hlz))
        clear J1 J2 hrz hfz hB2 hso ho hlz k1 k2 c1
        go_upto_region 4 with (at_builtin; refine wpList_append_own_at _ rfl _ _ 28 rfl (w.heap.size + 1) 30 i0 (.agg zero4.toArray) 4 56 Tryz.underlying28 hi0 hz0 hz1 hz2 rfl (by decide) _ _ _ rfl J3.out.row ⟨W2.heap.size, 0, none⟩ 1 1 (cellsP (z, lz)) rfl rfl C3.out (cellsP_one _ R3.out.2.2) (by unfold maxLen; omega) (by omega) J3.out.sz ?_; intro v6 W6 hown6 hg6 hn6 hat6; have J6 := Lib.hid (J3.out.push HF.out HZ.out.1 R3.out.1 R3.out.2.1 hg6 hown6 hat6); clear hown6 hg6 hn6 hat6 J3 C3 R3)
        go_wp2
        go_roundw
        case rel => exact ⟨k + 1, ps ++ [(z, lz)], by omega, by go_num, J6.out⟩
        case measure => simp [intOf]; omega
    · have hkk : k = V.l.length := by omega
      subst hkk
      have i1 : ¬ (V.l.length : Int) < (V.l.length : Int) := by omega
      go_wp2
      go_ret
      exact ⟨_, rfl, ps, J1.out⟩
theorem valsOf_any (V : Cl) (hr : ∀ f ∈ V.l, Val.rightTy f.k f.o = true) (h8 : V.l.length ≤ 8) (l : List Int) (hl : ∀ x ∈ l, -9223372036854775808 ≤ x ∧ x ≤ 9223372036854775807) (m : Nat) (hm : m ≤ 4000000000000000) (w : World) (cv lv : Value) (hc : FdL w.heap.size w V.l cv) (hi : IntsL w l lv) :
    Calls Tryz.prog 34 #[.agg #[.string V.nm, cv], lv, .int .i64 (m : Int)] w fun e w' => (∃ ov, e = .returned ov ∧ RepL w'.heap.size w' (valsOf V.l l m) ov ∧ Fresh w.heap.size ov) ∧ Below w.heap.size w w' :=
  (valsOf_anyJ V hr h8 l hl m hm w cv lv hc hi).mono fun e w' ⟨ov, he, ps, hJ⟩ => by
    refine ⟨⟨ov, he, ?_, fun j hj => ?_⟩, hJ.below⟩
    · have h := repL_pairs hJ.row hJ.len (fun p hp => (hJ.each p hp).2.1) hJ.nil
      rw [hJ.vals] at h
      exact h
    · have := (hJ.row.lt j hj).1; omega
end Go.Proofs.YtmobnlofbopbeaaGreatDoor.Cls
