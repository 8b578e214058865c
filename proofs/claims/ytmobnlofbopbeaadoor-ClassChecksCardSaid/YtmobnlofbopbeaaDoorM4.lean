/- The document's own answer for values: Right, of lists. -/
import Derived.Test.YtmobnlofbopbeaaDoorValRefR2
import Derived.Test.YtmobnlofbopbeaaDoorValFits
import Derived.Test.YtmobnlofbopbeaaDoorValBs
import Derived.Deep.RegionWith
import Derived.Test.YtmobnlofbopbeaaDoorM3
import Derived.Deep.RegionHeld3
namespace Go.Proofs.YtmobnlofbopbeaaDoor.Val
open Go.RowKit
open Kit (ret_int ret_bool)

attribute [local go_sem] Oper.semAt_some

theorem any_at {l : List Vl} {k : Nat} {y : Vl} (hy : l[k]? = some y) (hw : wrongIn y = true) : l.any wrongIn = true := List.any_eq_true.2 ⟨y, List.mem_of_getElem? hy, hw⟩
theorem any_end {l : List Vl} (h : ∀ i y, i < l.length → l[i]? = some y → wrongIn y = false) : l.any wrongIn = false := by
  rw [Bool.eq_false_iff]
  intro h2
  obtain ⟨y, hy, hw⟩ := List.any_eq_true.1 h2
  obtain ⟨i, hi⟩ := List.getElem?_of_mem hy
  rw [h i y (List.getElem?_eq_some_iff.1 hi).1 hi] at hw
  cases hw

set_option maxRecDepth 100000 in
set_option maxHeartbeats 4000000 in
theorem refRight_list (x : Vl) (hs : x.fits) (h5 : x.k = 5) (B : Nat) (w : World) (v : Value) (hB : B ≤ w.heap.size) (hr : Rep B w x v) :
    Calls Tryd.prog 22 #[v] w fun e w' => e = .returned (.bool (rightV x)) ∧ Below w.heap.size w w' := by
  obtain ⟨lv, rfl, hl⟩ := rep_of hr
  obtain ⟨a1, c1, rfl, z1⟩ := hl.len
  have hB1 := boxed w x.k x.n x.s (.slice a1 x.l.length c1)
  have P := Lib.hid (Kit.box4_new w (.int .i64 x.k) (.int .i64 x.n) (.string x.s) (.slice a1 x.l.length c1) 31)
  have hv : rightV x = (decide (x.l.length ≤ 12) && x.n == 0 && x.s.data.toList.isEmpty && !x.l.any wrongIn) := by unfold rightV; rw [if_pos h5]
  rw [hv]
  have k5 : (x.k == 5) = true := by simpa using h5
  have k0 : (x.k == 0) = false := by simp; omega
  have k1 : (x.k == 1) = false := by simp; omega
  have k2 : (x.k == 2) = false := by simp; omega
  have k3 : (x.k == 3) = false := by simp; omega
  have k4 : (x.k == 4) = false := by simp; omega
  have HL := Lib.hid (And.intro hl (And.intro hs.2 hB))
  have BB := Lib.hid hB1
  obtain ⟨E, hE⟩ : ∃ E, E = x.s.data.toList.isEmpty := ⟨_, rfl⟩
  have hE2 : x.s.toList.isEmpty = E := by rw [hE, ByteArray.toList_eq]
  rw [← hE]
  clear hl hr h5 hv hE hs hB hB1
  unfold maxLen at z1
  by_cases hn : x.n = 0
  case neg =>
    have n0 : (x.n == 0) = false := by simpa using hn
    have n1 : (x.n != 0) = true := by simp [hn]
    clear hn
    rw [n0]
    go_enter Tryd.func22, Tryd.ntmps22
    go_wp2
    go_ret
    exact ⟨ret_bool (by simp), BB.out⟩
  case pos =>
  have n0 : (x.n == 0) = true := by simpa using hn
  have n1 : (x.n != 0) = false := by simp [hn]
  clear hn
  rw [n0, Bool.and_true]
  cases E
  · rw [Bool.and_false, Bool.false_and]
    go_enter Tryd.func22, Tryd.ntmps22
    go_wp2
    go_ret
    exact ⟨rfl, BB.out⟩
  rw [Bool.and_true]
  by_cases h12 : x.l.length ≤ 12
  case neg =>
    have i12 : (12 : Int) < (x.l.length : Int) := by omega
    rw [decide_eq_false h12, Bool.false_and]
    go_enter Tryd.func22, Tryd.ntmps22
    go_wp2
    go_ret
    exact ⟨rfl, BB.out⟩
  case pos =>
  have i12 : ¬ (12 : Int) < (x.l.length : Int) := by omega
  rw [decide_eq_true h12, Bool.true_and]
  go_enter Tryd.func22, Tryd.ntmps22
  go_upto_region 15 with fail
  generalize w.alloc (.cells #[.int .i64 x.k, .int .i64 x.n, .string x.s, .slice a1 x.l.length c1] 31) = W0 at *
  go_wp2_with fail
  go_loopw [4] (fun i wr => ∃ k : Nat, k ≤ x.l.length ∧ i = .int .i64 k ∧ Below W0.heap.size W0 wr ∧ ∀ j y, j < k → x.l[j]? = some y → wrongIn y = false) (fun i _ => x.l.length - (intOf i).toNat)
  case atStart => exact ⟨0, by omega, rfl, Below.refl _ _, fun j y h => by omega⟩
  case round =>
    obtain ⟨k, hk, rfl, hBW, hz⟩ := hrel
    have BW := Lib.hid hBW
    have HZ := Lib.hid hz
    obtain ⟨q0, q1, q2, q3⟩ := P.out.below hBW (Kit.lt_of_cell P.out.1)
    clear hBW hz
    by_cases hlt : k < x.l.length
    · have j1 : (k : Int) < (x.l.length : Int) := by omega
      obtain ⟨y, hy⟩ : ∃ y, x.l[k]? = some y := ⟨_, List.getElem?_eq_getElem hlt⟩
      obtain ⟨b, o, c, lw, he, hb, ⟨r0, r1, r2, r3⟩, hlw⟩ := HL.out.1.at hy
      cases he
      obtain ⟨a3, c3, rfl, -⟩ := hlw.len
      have hBA : Below w.heap.size w wr := BB.out.trans (BW.out.mono BB.out.size)
      have hbs : b < w.heap.size := by have := HL.out.2.2; omega
      have s0 := (hBA.cell (p := ⟨b, o + k * 4, none⟩) hbs).trans r0
      have s1 := (hBA.cell (p := ⟨b, o + k * 4 + 1, none⟩) hbs).trans r1
      have s2 := (hBA.cell (p := ⟨b, o + k * 4 + 2, none⟩) hbs).trans r2
      have s3 := (hBA.cell (p := ⟨b, o + k * 4 + 3, none⟩) hbs).trans r3
      have HY := Lib.hid hy
      have HR := Lib.hid (show Rep B wr y (aggV y.k y.n y.s (.slice a3 y.l.length c3)) from (rep_in hlw).below hBA HL.out.2.2)
      clear r0 r1 r2 r3 hlw hBA hy hbs
      cases hy5 : (y.k == 5)
      · have h5n : y.k ≠ 5 := by simpa using hy5
        have HCC := refRight_flat y (HL.out.2.1 y (List.mem_of_getElem? HY.out)) h5n B wr _ HR.out
        have hwr : wrongIn y = !rightF y := by unfold wrongIn; rw [hy5, Bool.false_or]
        clear h5n
        cases hrf : rightF y
        all_goals
          rw [hrf] at HCC hwr
          have HCH := Lib.hid HCC
          have HW := Lib.hid hwr
          clear HCC hwr hrf
          go_wp2_with fail
          refine HCH.out.mono ?_; rintro e w3 ⟨rfl, hB3⟩
        · have HA := Lib.hid (any_at HY.out HW.out)
          go_wp2
          go_ret
          exact ⟨ret_bool (by rw [HA.out]; rfl), BB.out.trans ((BW.out.trans (hB3.mono BW.out.size)).mono BB.out.size)⟩
        · go_wp2
          go_roundw
          case rel =>
            refine ⟨k + 1, by omega, by go_num, BW.out.trans (hB3.mono BW.out.size), fun j q hj hq => ?_⟩
            rcases Nat.lt_or_ge j k with h | h
            · exact HZ.out j q h hq
            · obtain rfl : j = k := by omega
              rw [HY.out] at hq; cases hq
              exact HW.out
          case measure => simp [intOf]; omega
      · have HA := Lib.hid (any_at HY.out (show wrongIn y = true by unfold wrongIn; rw [hy5]; rfl))
        go_wp2
        go_ret
        exact ⟨ret_bool (by rw [HA.out]; rfl), BB.out.trans (BW.out.mono BB.out.size)⟩
    · have hkk : k = x.l.length := by omega
      subst hkk
      have j1 : ¬ (x.l.length : Int) < (x.l.length : Int) := by omega
      go_wp2
      go_ret
      exact ⟨ret_bool (by rw [any_end HZ.out]; rfl), BB.out.trans (BW.out.mono BB.out.size)⟩
theorem refRight_any (x : Vl) (hs : x.fits) (B : Nat) (w : World) (v : Value) (hB : B ≤ w.heap.size) (hr : Rep B w x v) :
    Calls Tryd.prog 22 #[v] w fun e w' => e = .returned (.bool (rightV x)) ∧ Below w.heap.size w w' := by
  by_cases h5 : x.k = 5
  · exact refRight_list x hs h5 B w v hB hr
  · rw [show rightV x = rightF x by unfold rightV; rw [if_neg h5]]
    exact refRight_flat x hs.1 h5 B w v hr
end Go.Proofs.YtmobnlofbopbeaaDoor.Val
/- The document's own answer for values: types, kinds. -/
namespace Go.Proofs.YtmobnlofbopbeaaDoor.Val
open Go.RowKit
open Kit (ret_int ret_bool)

attribute [local go_sem] Oper.semAt_some

theorem plain_any (k : Int) (w : World) : Calls Tryd.prog 65 #[.int .i64 k] w fun e w' => e = .returned (.bool (inK k)) ∧ w = w' := by
  unfold inK
  by_cases a : 1 ≤ k
  · rw [decide_eq_true a, Bool.true_and]
    by_cases b : k ≤ 4
    all_goals
      go_enter Tryd.func65, Tryd.ntmps65
      go_wp2
      go_ret
      exact ⟨ret_bool (by simp [*]), rfl⟩
  · rw [decide_eq_false a, Bool.false_and]
    go_enter Tryd.func65, Tryd.ntmps65
    go_wp2
    go_ret
    exact ⟨rfl, rfl⟩
theorem refRightType_any (K O : Int) (w : World) : Calls Tryd.prog 43 #[.agg #[.int .i64 K, .int .i64 O]] w fun e w' => e = .returned (.bool (rightTy K O)) ∧ Below w.heap.size w w' := by
  have hB := Kit.below_alloc w (.cells #[.int .i64 K, .int .i64 O] 44)
  unfold rightTy
  by_cases k5 : K = 5
  · rw [if_pos k5]
    have k5b : (K == 5) = true := by simpa using k5
    clear k5
    go_enter Tryd.func43, Tryd.ntmps43
    go_wp2_with fail
    refine (plain_any O _).mono ?_; rintro e w' ⟨rfl, rfl⟩
    go_wp2
    go_ret
    exact ⟨rfl, hB⟩
  · rw [if_neg k5]
    have k5b : (K == 5) = false := by simpa using k5
    clear k5
    have HP := Lib.hid (fun W => plain_any K W)
    cases hk : inK K
    all_goals
      rw [hk] at HP
      clear hk
      go_enter Tryd.func43, Tryd.ntmps43
      go_wp2_with fail
      refine (HP.out _).mono ?_; rintro e w' ⟨rfl, rfl⟩
      go_wp2
      go_ret
      exact ⟨ret_bool (by simp), hB⟩
theorem refKind_any (k n : Int) (s : ByteArray) (lv : Value) (K : Int) (w : World) : Calls Tryd.prog 44 #[aggV k n s lv, .int .i64 K] w fun e w' => e = .returned (.bool (fitsK k K)) ∧ Below w.heap.size w w' := by
  have hB := boxed w k n s lv
  unfold fitsK isRefK
  cases a : k == K
  · cases b : k == 0
    · go_enter Tryd.func44, Tryd.ntmps44
      go_wp2
      go_ret
      exact ⟨rfl, hB⟩
    · cases c : K == 3
      all_goals
        go_enter Tryd.func44, Tryd.ntmps44
        go_wp2
        go_ret
        exact ⟨ret_bool (by simp), hB⟩
  · go_enter Tryd.func44, Tryd.ntmps44
    go_wp2
    go_ret
    exact ⟨rfl, hB⟩
end Go.Proofs.YtmobnlofbopbeaaDoor.Val
/- The document's own answer for values: Fits. -/
namespace Go.Proofs.YtmobnlofbopbeaaDoor.Val
open Go.RowKit
open Kit (ret_int ret_bool)

attribute [local go_sem] Oper.semAt_some

set_option maxRecDepth 100000 in
set_option maxHeartbeats 4000000 in
theorem refFits_any (x : Vl) (hf : x.fits) (K O : Int) (B : Nat) (w : World) (v : Value) (hB : B ≤ w.heap.size) (hr : Rep B w x v) :
    Calls Tryd.prog 23 #[v, .agg #[.int .i64 K, .int .i64 O]] w fun e w' => e = .returned (.bool (fitsV x K O)) ∧ Below w.heap.size w w' := by
  obtain ⟨lv, rfl, hl⟩ := rep_of hr
  obtain ⟨a1, c1, rfl, z1⟩ := hl.len
  unfold maxLen at z1
  have hB2 := Kit.below_alloc2 w (.cells #[.int .i64 x.k, .int .i64 x.n, .string x.s, .slice a1 x.l.length c1] 31) (.cells #[.int .i64 K, .int .i64 O] 44)
  have hp := (Kit.box4_new w (.int .i64 x.k) (.int .i64 x.n) (.string x.s) (.slice a1 x.l.length c1) 31).kept (.cells #[.int .i64 K, .int .i64 O] 44)
  have ht0 := Kit.cell_new (w.alloc (.cells #[.int .i64 x.k, .int .i64 x.n, .string x.s, .slice a1 x.l.length c1] 31)) #[.int .i64 K, .int .i64 O] 44 0 rfl
  have ht1 := Kit.cell_new (w.alloc (.cells #[.int .i64 x.k, .int .i64 x.n, .string x.s, .slice a1 x.l.length c1] 31)) #[.int .i64 K, .int .i64 O] 44 1 rfl
  rw [World.size_alloc] at ht0 ht1
  have hv : fitsV x K O = (rightTy K O && (rightV x && (fitsK x.k K && x.l.all fun y => fitsK y.k O))) := rfl
  rw [hv]
  have HL := Lib.hid (And.intro hl hB)
  have BB := Lib.hid hB2
  have HC := Lib.hid (fun W (h : Below w.heap.size w W) => refRight_any x hf W.heap.size W _ (Nat.le_refl _) ((hr.below h hB).mono (Nat.le_trans hB h.size)))
  have P := Lib.hid (And.intro hp (And.intro ht0 ht1))
  clear hl hr hv hB2 hp ht0 ht1 hf hB
  obtain ⟨⟨q0, q1, q2, q3⟩, u0, u1⟩ := P.out
  go_enter Tryd.func23, Tryd.ntmps23
  go_upto_region 1 with fail
  generalize (w.alloc (.cells #[.int .i64 x.k, .int .i64 x.n, .string x.s, .slice a1 x.l.length c1] 31)).alloc (.cells #[.int .i64 K, .int .i64 O] 44) = W0 at *
  go_wp2_with fail
  refine (HC.out _ BB.out).mono ?_; rintro e W1 ⟨rfl, hB1⟩
  have P1 := Lib.hid (And.intro (P.out.1.below hB1 P.out.1.lt) (And.intro ((hB1.cell (p := ⟨w.heap.size + 1, 0, none⟩) (Kit.lt_of_cell P.out.2.1)).trans P.out.2.1) ((hB1.cell (p := ⟨w.heap.size + 1, 1, none⟩) (Kit.lt_of_cell P.out.2.2)).trans P.out.2.2)))
  have B1 := Lib.hid (BB.out.trans (hB1.mono BB.out.size))
  clear hB1 BB P q0 q1 q2 q3 u0 u1 HC
  obtain ⟨⟨q0, q1, q2, q3⟩, u0, u1⟩ := P1.out
  go_wp2_with fail
  refine (refRightType_any K O _).mono ?_; rintro e W2 ⟨rfl, hB2⟩
  have P2 := Lib.hid (And.intro (P1.out.1.below hB2 P1.out.1.lt) (And.intro ((hB2.cell (p := ⟨w.heap.size + 1, 0, none⟩) (Kit.lt_of_cell P1.out.2.1)).trans P1.out.2.1) ((hB2.cell (p := ⟨w.heap.size + 1, 1, none⟩) (Kit.lt_of_cell P1.out.2.2)).trans P1.out.2.2)))
  have B2 := Lib.hid (B1.out.trans (hB2.mono B1.out.size))
  clear hB2 B1 P1 q0 q1 q2 q3 u0 u1
  cases ha : rightV x
  · have HA := Lib.hid ha
    clear ha
    go_wp2
    go_ret
    exact ⟨ret_bool (by rw [HA.out]; simp), B2.out⟩
  cases hb : rightTy K O
  · have HA := Lib.hid hb
    clear hb ha
    go_wp2
    go_ret
    exact ⟨ret_bool (by rw [HA.out]; simp), B2.out⟩
  have HAB := Lib.hid (And.intro ha hb)
  obtain ⟨⟨q0, q1, q2, q3⟩, u0, u1⟩ := P2.out
  have HK := Lib.hid (fun W => refKind_any x.k x.n x.s (.slice a1 x.l.length c1) K W)
  clear ha hb
  cases hc : fitsK x.k K
  all_goals
    rw [hc] at HK
    have HF := Lib.hid hc
    clear hc
    go_wp2_with fail
    refine (HK.out _).mono ?_; rintro e W3 ⟨rfl, hB3⟩
    have P3 := Lib.hid (And.intro (P2.out.1.below hB3 P2.out.1.lt) (And.intro ((hB3.cell (p := ⟨w.heap.size + 1, 0, none⟩) (Kit.lt_of_cell P2.out.2.1)).trans P2.out.2.1) ((hB3.cell (p := ⟨w.heap.size + 1, 1, none⟩) (Kit.lt_of_cell P2.out.2.2)).trans P2.out.2.2)))
    have B3 := Lib.hid (B2.out.trans (hB3.mono B2.out.size))
    clear hB3 B2 P2 q0 q1 q2 q3 u0 u1 HK
  · go_wp2
    go_ret
    exact ⟨ret_bool (by rw [HF.out]; simp), B3.out⟩
  go_wp2_with fail
  go_loopw [7] (fun i wr => ∃ k : Nat, k ≤ x.l.length ∧ i = .int .i64 k ∧ Below W3.heap.size W3 wr ∧ ∀ j y, j < k → x.l[j]? = some y → fitsK y.k O = true) (fun i _ => x.l.length - (intOf i).toNat)
  case atStart => exact ⟨0, by omega, rfl, Below.refl _ _, fun j y h => by omega⟩
  case round =>
    obtain ⟨k, hk, rfl, hBW, hz⟩ := hrel
    have BW := Lib.hid hBW
    have HZ := Lib.hid hz
    obtain ⟨q0, q1, q2, q3⟩ := P3.out.1.below hBW P3.out.1.lt
    have u1 := (hBW.cell (p := ⟨w.heap.size + 1, 1, none⟩) (Kit.lt_of_cell P3.out.2.2)).trans P3.out.2.2
    clear hBW hz q0 q1 q2
    by_cases hlt : k < x.l.length
    · have j1 : (k : Int) < (x.l.length : Int) := by omega
      obtain ⟨y, hy⟩ : ∃ y, x.l[k]? = some y := ⟨_, List.getElem?_eq_getElem hlt⟩
      obtain ⟨b, o, c, lw, he, hb, ⟨r0, r1, r2, r3⟩, -⟩ := HL.out.1.at hy
      cases he
      have hBA : Below w.heap.size w wr := B3.out.trans (BW.out.mono B3.out.size)
      have hbs : b < w.heap.size := by have := HL.out.2; omega
      have s0 := (hBA.cell (p := ⟨b, o + k * 4, none⟩) hbs).trans r0
      have s1 := (hBA.cell (p := ⟨b, o + k * 4 + 1, none⟩) hbs).trans r1
      have s2 := (hBA.cell (p := ⟨b, o + k * 4 + 2, none⟩) hbs).trans r2
      have s3 := (hBA.cell (p := ⟨b, o + k * 4 + 3, none⟩) hbs).trans r3
      have HY := Lib.hid hy
      have HK := Lib.hid (fun W => refKind_any y.k y.n y.s lw O W)
      clear r0 r1 r2 r3 hBA hy hbs
      go_upto_region 8 with fail
      cases hq : fitsK y.k O
      all_goals
        rw [hq] at HK
        have HQ := Lib.hid hq
        clear hq
      · have HA := Lib.hid (show (x.l.all fun y => fitsK y.k O) = false from all_at HZ.out HY.out HQ.out)
        go_region_with (refine (HK.out _).mono ?_; rintro e W4 ⟨rfl, hB4⟩)
        all_goals
          go_wp2
          go_ret
          exact ⟨ret_bool (by rw [HA.out]; simp), (B3.out.trans (BW.out.mono B3.out.size)).drew.trans (hB4.mono (B3.out.trans (BW.out.mono B3.out.size)).size)⟩
      · go_region_with (refine (HK.out _).mono ?_; rintro e W4 ⟨rfl, hB4⟩)
        all_goals
          go_wp2
          go_roundw
          case rel =>
            refine ⟨k + 1, by omega, by go_num, ?_, fun j q hj hq => ?_⟩
            · exact BW.out.drew.trans (hB4.mono BW.out.size)
            · rcases Nat.lt_or_ge j k with h | h
              · exact HZ.out j q h hq
              · obtain rfl : j = k := by omega
                rw [HY.out] at hq; cases hq
                exact HQ.out
          case measure => simp [intOf]; omega
    · have hkk : k = x.l.length := by omega
      subst hkk
      have j1 : ¬ (x.l.length : Int) < (x.l.length : Int) := by omega
      have HA := Lib.hid (all_end (O := O) HZ.out)
      go_wp2
      go_ret
      exact ⟨ret_bool (by rw [HAB.out.1, HAB.out.2, HF.out, HA.out]; rfl), B3.out.trans (BW.out.mono B3.out.size)⟩
end Go.Proofs.YtmobnlofbopbeaaDoor.Val
/- The document's own answer for classes: Check. -/
namespace Go.Proofs.YtmobnlofbopbeaaDoor.Cls
open Go.RowKit
open Kit (ret_int ret_bool)
open Val (Env flat bs Vl Rep RepL rightV fitsV aggV)

attribute [local go_sem] Oper.semAt_some

theorem fits_right {v : Vl} {K O : Int} (h : rightV v = false) : fitsV v K O = false := by
  unfold fitsV; rw [h, Bool.false_and, Bool.and_false]
theorem misfit_at {c : Cl} {l : List Vl} {k : Nat} {y : Fd} {v : Vl} (hy : c.l[k]? = some y) (hv : l[k]? = some v) (hz : ∀ i q, i < k → (c.l.zip l)[i]? = some q → misfit q = false) (hm : fitsV v y.k y.o = false) : firstOf misfit (c.l.zip l) 0 = (k : Int) := by
  have hq : (c.l.zip l)[k]? = some (y, v) := List.getElem?_zip_eq_some.2 ⟨hy, hv⟩
  have hlt := (List.getElem?_eq_some_iff.1 hq).1
  rw [firstOf_at misfit (c.l.zip l) 0 k (by omega) hz, List.drop_eq_getElem_cons hlt, firstOf, (List.getElem?_eq_some_iff.1 hq).2]
  unfold misfit
  simp [hm]

set_option maxRecDepth 100000 in
set_option maxHeartbeats 4000000 in
theorem refCheck_any (c : Cl) (hs : c.fits) (l : List Vl) (hf : ∀ y ∈ l, y.fits) (B : Nat) (w : World) (lv vv : Value) (hB : B ≤ w.heap.size) (hl : FdL B w c.l lv) (hv : RepW B w l vv) :
    Calls Tryd.prog 10 #[.agg #[.string c.nm, lv], vv] w fun e w' => e = .returned (.tuple #[.int .i64 (checkC c l).1, .int .i64 (checkC c l).2]) ∧ Below w.heap.size w w' := by
  obtain ⟨a1, c1, rfl, z1⟩ := hl.len
  obtain ⟨a2, c2, rfl, z2⟩ := hv.len
  unfold maxLen at z1 z2
  have hB1 := Kit.below_alloc w (.cells #[.string c.nm, .slice a1 c.l.length c1] 27)
  have g0 := Kit.cell_new w #[.string c.nm, .slice a1 c.l.length c1] 27 0 rfl
  have g1 := Kit.cell_new w #[.string c.nm, .slice a1 c.l.length c1] 27 1 rfl
  have BB := Lib.hid hB1
  have HL := Lib.hid (And.intro hl (And.intro hv (And.intro hB hf)))
  have HR := Lib.hid (refRight_cl c hs _ _ _ (Nat.le_refl _) ((hl.below hB1 hB).mono (Nat.le_trans hB hB1.size)))
  clear hB1 hl hv hB hf hs
  go_enter Tryd.func10, Tryd.ntmps10
  go_wp2_with fail
  refine HR.out.mono ?_; rintro e W1 ⟨rfl, hB1⟩
  have G := Lib.hid ((hB1.cell (p := ⟨w.heap.size, 1, none⟩) (Kit.lt_of_cell g1)).trans g1)
  have B1 := Lib.hid (BB.out.trans (hB1.mono BB.out.size))
  clear g0 g1 hB1 BB HR
  cases hr : clsR c
  · have HC := Lib.hid (show checkC c l = (0, 40) by unfold checkC; rw [if_pos hr])
    clear hr
    go_wp2
    go_ret2
    exact ⟨by rw [HC.out]; rfl, B1.out⟩
  have H1 := Lib.hid hr
  clear hr
  have q1 := G.out
  by_cases hn : l.length = c.l.length
  case neg =>
    have hni : ((l.length : Int) != (c.l.length : Int)) = true := by simp; omega
    have HC := Lib.hid (show checkC c l = (min (l.length : Int) (c.l.length : Int), 42) by unfold checkC; rw [if_neg (by rw [H1.out]; simp), if_pos hn])
    clear hn
    go_wp2
    go_ret2
    exact ⟨by rw [HC.out]; rfl, B1.out⟩
  case pos =>
  have hni : ((l.length : Int) != (c.l.length : Int)) = false := by simp [hn]
  have HN := Lib.hid hn
  have z3 : c.l.length ≤ l.length := by omega
  clear hn
  go_upto_region 5 with fail
  clear q1
  go_wp2_with fail
  go_loopw [6] (fun i wr => ∃ k : Nat, k ≤ l.length ∧ i = .int .i64 k ∧ Below W1.heap.size W1 wr ∧ ∀ j q, j < k → (c.l.zip l)[j]? = some q → misfit q = false) (fun i _ => l.length - (intOf i).toNat)
  case atStart => exact ⟨0, by omega, rfl, Below.refl _ _, fun j y h => by omega⟩
  case round =>
    obtain ⟨k, hk, rfl, hBW, hz⟩ := hrel
    have BW := Lib.hid hBW
    have HZ := Lib.hid hz
    clear hBW hz
    by_cases hlt : k < l.length
    · have j1 : (k : Int) < (l.length : Int) := by omega
      have j2 : (k : Int) < (c.l.length : Int) := by have := HN.out; omega
      obtain ⟨y, hy⟩ : ∃ y, c.l[k]? = some y := ⟨_, List.getElem?_eq_getElem (by have := HN.out; omega)⟩
      obtain ⟨v, hv⟩ : ∃ v, l[k]? = some v := ⟨_, List.getElem?_eq_getElem hlt⟩
      obtain ⟨b, o, cc, he, hb, -, r1, r2, -⟩ := HL.out.1.at hy
      cases he
      obtain ⟨b2, o2, c3, lw, he, hb2, ⟨t0, t1, t2, t3⟩, hlw⟩ := HL.out.2.1.at hv
      cases he
      obtain ⟨a3, c4, rfl, -⟩ := hlw.len
      have hBA : Below w.heap.size w wr := B1.out.trans (BW.out.mono B1.out.size)
      have hbs : b < w.heap.size := by have := HL.out.2.2.1; omega
      have hbs2 : b2 < w.heap.size := by have := HL.out.2.2.1; omega
      have HS := Lib.hid (fun W (h : Below wr.heap.size wr W) => (show W.cell? ⟨w.heap.size, 1, none⟩ = some (.slice (some ⟨b, o, none⟩) c.l.length c1) ∧ W.cell? ⟨b2, o2 + k * 4, none⟩ = some (.int .i64 v.k) ∧ W.cell? ⟨b2, o2 + k * 4 + 1, none⟩ = some (.int .i64 v.n) ∧ W.cell? ⟨b2, o2 + k * 4 + 2, none⟩ = some (.string v.s) ∧ W.cell? ⟨b2, o2 + k * 4 + 3, none⟩ = some (.slice a3 v.l.length c4) ∧ W.cell? ⟨b, o + k * 4 + 1, none⟩ = some (.int .i64 y.k) ∧ W.cell? ⟨b, o + k * 4 + 2, none⟩ = some (.int .i64 y.o) from by
        have hW : Below w.heap.size w W := hBA.trans (h.mono hBA.size)
        have hW1 : Below W1.heap.size W1 W := BW.out.trans (h.mono BW.out.size)
        exact ⟨(hW1.cell (p := ⟨w.heap.size, 1, none⟩) (Kit.lt_of_cell G.out)).trans G.out, (hW.cell (p := ⟨b2, o2 + k * 4, none⟩) hbs2).trans t0, (hW.cell (p := ⟨b2, o2 + k * 4 + 1, none⟩) hbs2).trans t1, (hW.cell (p := ⟨b2, o2 + k * 4 + 2, none⟩) hbs2).trans t2, (hW.cell (p := ⟨b2, o2 + k * 4 + 3, none⟩) hbs2).trans t3, (hW.cell (p := ⟨b, o + k * 4 + 1, none⟩) hbs).trans r1, (hW.cell (p := ⟨b, o + k * 4 + 2, none⟩) hbs).trans r2⟩))
      have hvf := HL.out.2.2.2 v (List.mem_of_getElem? hv)
      have hrp := fun W (h : Below wr.heap.size wr W) => (Val.rep_in hlw).moved (B' := W.heap.size) (w' := W) (by have := HL.out.2.2.1; have := (hBA.trans (h.mono hBA.size)).size; omega) (fun j hj => (hBA.trans (h.mono hBA.size)).block j (by have := HL.out.2.2.1; omega))
      have HRV := Lib.hid (fun W (h : Below wr.heap.size wr W) => Val.refRight_any v hvf W.heap.size W _ (Nat.le_refl _) (hrp W h))
      have HFV := Lib.hid (fun W (h : Below wr.heap.size wr W) => Val.refFits_any v hvf y.k y.o W.heap.size W _ (Nat.le_refl _) (hrp W h))
      have HY := Lib.hid (And.intro hy hv)
      have HBA := Lib.hid hBA
      clear r1 r2 t0 t1 t2 t3 hlw hBA hbs hbs2 hvf hrp hy hv hb hb2
      obtain ⟨u0, u1, u2, u3, u4, u5, u6⟩ := HS.out wr (Below.refl _ _)
      cases hrv : rightV v
      · have HM := Lib.hid (show checkC c l = ((k : Int), 42) by
          unfold checkC; rw [if_neg (by rw [H1.out]; simp), if_neg (by have := HN.out; omega), misfit_at HY.out.1 HY.out.2 HZ.out (fits_right hrv), if_neg (by omega)])
        rw [hrv] at HRV
        clear hrv HFV
        go_upto_region 8 with fail
        clear u0 u1 u2 u3 u4 u5 u6
        refine wp_region_held_drew (S := fun w' => w'.cell? ⟨w.heap.size, 1, none⟩ = some (.slice (some ⟨b, o, none⟩) c.l.length c1) ∧ w'.cell? ⟨b2, o2 + k * 4, none⟩ = some (.int .i64 v.k) ∧ w'.cell? ⟨b2, o2 + k * 4 + 1, none⟩ = some (.int .i64 v.n) ∧ w'.cell? ⟨b2, o2 + k * 4 + 2, none⟩ = some (.string v.s) ∧ w'.cell? ⟨b2, o2 + k * 4 + 3, none⟩ = some (.slice a3 v.l.length c4) ∧ w'.cell? ⟨b, o + k * 4 + 1, none⟩ = some (.int .i64 y.k) ∧ w'.cell? ⟨b, o + k * 4 + 2, none⟩ = some (.int .i64 y.o)) (by kernel_rfl) (HS.out _ (Below.refl _ _).drew) (fun hHeld => ?_)
        refine wpAnyH_take (i := 0) (v := .slice (some ⟨b2, o2, none⟩) l.length c2) Kit.at0 (by kernel_rfl) (by kernel_rfl) (by kernel_rfl) (fun _ _ _ h => h) (Or.inl ⟨by rfl, fun w hw => ?_⟩) hHeld ?_
        case' refine_1 => obtain ⟨u0, u1, u2, u3, u4, u5, u6⟩ := hw; go_simp
        try simp only [Act.put, List.setIfInBounds_toArray, List.set_cons_zero, List.set_cons_succ]
        refine wpAnyH_take (i := 1) (v := .int .i64 (k : Int)) Kit.at1 (by kernel_rfl) (by kernel_rfl) (by kernel_rfl) (fun _ _ _ h => h) (Or.inl ⟨by rfl, fun w hw => ?_⟩) hHeld ?_
        case' refine_1 => obtain ⟨u0, u1, u2, u3, u4, u5, u6⟩ := hw; go_simp
        try simp only [Act.put, List.setIfInBounds_toArray, List.set_cons_zero, List.set_cons_succ]
        refine wpAnyH_take (i := 2) (v := .pointer (some ⟨b2, o2 + k * 4, none⟩)) Kit.at2 (by kernel_rfl) (by kernel_rfl) (by kernel_rfl) (fun _ _ _ h => h) (Or.inl ⟨by rfl, fun w hw => ?_⟩) hHeld ?_
        case' refine_1 => obtain ⟨u0, u1, u2, u3, u4, u5, u6⟩ := hw; go_simp
        try simp only [Act.put, List.setIfInBounds_toArray, List.set_cons_zero, List.set_cons_succ]
        refine wpAnyH_take (i := 3) (v := aggV v.k v.n v.s (.slice a3 v.l.length c4)) Kit.at3 (by kernel_rfl) (by kernel_rfl) (by kernel_rfl) (fun _ _ _ h => h) (Or.inl ⟨by rfl, fun w hw => ?_⟩) hHeld ?_
        case' refine_1 => obtain ⟨u0, u1, u2, u3, u4, u5, u6⟩ := hw; go_simp
        try simp only [Act.put, List.setIfInBounds_toArray, List.set_cons_zero, List.set_cons_succ]
        refine wpAnyH_ready (rs := [4]) (by kernel_rfl) (by simp) ?_
        refine AllReadyH.cons Kit.at4 (fun K0 hK => ?_) AllReadyH.nil
        go_simp
        refine (HRV.out _ (Below.refl _ _).drew).mono ?_; rintro e w3 ⟨rfl, hB3⟩
        refine hK.out _ _ (HS.out _ ((Below.refl _ _).drew.trans hB3)) (fun hHeld => ?_)
        clear hK K0
        try simp only [Act.put, List.setIfInBounds_toArray, List.set_cons_zero, List.set_cons_succ]
        refine wpAnyH_take (i := 5) (v := .bool true) Kit.at5 (by kernel_rfl) (by kernel_rfl) (by kernel_rfl) (fun _ _ _ h => h) (Or.inl ⟨by rfl, fun w hw => ?_⟩) hHeld ?_
        case' refine_1 => obtain ⟨u0, u1, u2, u3, u4, u5, u6⟩ := hw; go_simp
        try simp only [Act.put, List.setIfInBounds_toArray, List.set_cons_zero, List.set_cons_succ]
        refine wpAnyH_take (i := 6) (v := .bool true) Kit.at6 (by kernel_rfl) (by kernel_rfl) (by kernel_rfl) (fun _ _ _ h => h) (Or.inl ⟨by rfl, fun w hw => ?_⟩) hHeld ?_
        case' refine_1 => obtain ⟨u0, u1, u2, u3, u4, u5, u6⟩ := hw; go_simp
        try simp only [Act.put, List.setIfInBounds_toArray, List.set_cons_zero, List.set_cons_succ]
        refine wpAnyH_take (i := 7) (v := undef) Kit.at7 (by kernel_rfl) (by kernel_rfl) (by kernel_rfl) (fun _ _ _ h => h) (Or.inr ⟨by rfl, rfl⟩) hHeld ?_
        try simp only [Act.put, List.setIfInBounds_toArray, List.set_cons_zero, List.set_cons_succ]
        refine wpAnyH_take (i := 8) (v := undef) Kit.at8 (by kernel_rfl) (by kernel_rfl) (by kernel_rfl) (fun _ _ _ h => h) (Or.inr ⟨by rfl, rfl⟩) hHeld ?_
        try simp only [Act.put, List.setIfInBounds_toArray, List.set_cons_zero, List.set_cons_succ]
        refine wpAnyH_take (i := 9) (v := undef) Kit.at9 (by kernel_rfl) (by kernel_rfl) (by kernel_rfl) (fun _ _ _ h => h) (Or.inr ⟨by rfl, rfl⟩) hHeld ?_
        try simp only [Act.put, List.setIfInBounds_toArray, List.set_cons_zero, List.set_cons_succ]
        refine wpAnyH_take (i := 10) (v := undef) Kit.at10 (by kernel_rfl) (by kernel_rfl) (by kernel_rfl) (fun _ _ _ h => h) (Or.inr ⟨by rfl, rfl⟩) hHeld ?_
        try simp only [Act.put, List.setIfInBounds_toArray, List.set_cons_zero, List.set_cons_succ]
        refine wpAnyH_take (i := 11) (v := undef) Kit.at11 (by kernel_rfl) (by kernel_rfl) (by kernel_rfl) (fun _ _ _ h => h) (Or.inr ⟨by rfl, rfl⟩) hHeld ?_
        try simp only [Act.put, List.setIfInBounds_toArray, List.set_cons_zero, List.set_cons_succ]
        refine wpAnyH_take (i := 12) (v := undef) Kit.at12 (by kernel_rfl) (by kernel_rfl) (by kernel_rfl) (fun _ _ _ h => h) (Or.inr ⟨by rfl, rfl⟩) hHeld ?_
        try simp only [Act.put, List.setIfInBounds_toArray, List.set_cons_zero, List.set_cons_succ]
        refine wpAnyH_take (i := 13) (v := undef) Kit.at13 (by kernel_rfl) (by kernel_rfl) (by kernel_rfl) (fun _ _ _ h => h) (Or.inr ⟨by rfl, rfl⟩) hHeld ?_
        try simp only [Act.put, List.setIfInBounds_toArray, List.set_cons_zero, List.set_cons_succ]
        refine wpAnyH_take (i := 14) (v := undef) Kit.at14 (by kernel_rfl) (by kernel_rfl) (by kernel_rfl) (fun _ _ _ h => h) (Or.inr ⟨by rfl, rfl⟩) hHeld ?_
        try simp only [Act.put, List.setIfInBounds_toArray, List.set_cons_zero, List.set_cons_succ]
        refine wpAnyH_take (i := 15) (v := undef) Kit.at15 (by kernel_rfl) (by kernel_rfl) (by kernel_rfl) (fun _ _ _ h => h) (Or.inr ⟨by rfl, rfl⟩) hHeld ?_
        try simp only [Act.put, List.setIfInBounds_toArray, List.set_cons_zero, List.set_cons_succ]
        refine wpAnyH_take (i := 16) (v := undef) Kit.at16 (by kernel_rfl) (by kernel_rfl) (by kernel_rfl) (fun _ _ _ h => h) (Or.inr ⟨by rfl, rfl⟩) hHeld ?_
        try simp only [Act.put, List.setIfInBounds_toArray, List.set_cons_zero, List.set_cons_succ]
        refine wpAnyH_take (i := 17) (v := undef) Kit.at17 (by kernel_rfl) (by kernel_rfl) (by kernel_rfl) (fun _ _ _ h => h) (Or.inr ⟨by rfl, rfl⟩) hHeld ?_
        try simp only [Act.put, List.setIfInBounds_toArray, List.set_cons_zero, List.set_cons_succ]
        refine wpAnyH_take (i := 18) (v := undef) Kit.at18 (by kernel_rfl) (by kernel_rfl) (by kernel_rfl) (fun _ _ _ h => h) (Or.inr ⟨by rfl, rfl⟩) hHeld ?_
        try simp only [Act.put, List.setIfInBounds_toArray, List.set_cons_zero, List.set_cons_succ]
        refine wpAnyH_take (i := 19) (v := .bool true) rfl (by kernel_rfl) (by kernel_rfl) (by kernel_rfl) (fun _ _ _ h => h) (Or.inl ⟨by rfl, fun w hw => ?_⟩) hHeld ?_
        case' refine_1 => obtain ⟨u0, u1, u2, u3, u4, u5, u6⟩ := hw; go_simp
        try simp only [Act.put, List.setIfInBounds_toArray]
        refine wpAnyH_done (by kernel_rfl) ?_ _
        go_wp2
        go_ret2
        exact ⟨by rw [HM.out]; rfl, HBA.out.drew.trans (hB3.mono HBA.out.size)⟩
      · rw [hrv] at HRV
        clear hrv
        cases hfv : fitsV v y.k y.o
        all_goals
          rw [hfv] at HFV
          have HQ := Lib.hid hfv
          clear hfv
          go_upto_region 8 with fail
          go_region_held3 (fun w' => w'.cell? ⟨w.heap.size, 1, none⟩ = some (.slice (some ⟨b, o, none⟩) c.l.length c1) ∧ w'.cell? ⟨b2, o2 + k * 4, none⟩ = some (.int .i64 v.k) ∧ w'.cell? ⟨b2, o2 + k * 4 + 1, none⟩ = some (.int .i64 v.n) ∧ w'.cell? ⟨b2, o2 + k * 4 + 2, none⟩ = some (.string v.s) ∧ w'.cell? ⟨b2, o2 + k * 4 + 3, none⟩ = some (.slice a3 v.l.length c4) ∧ w'.cell? ⟨b, o + k * 4 + 1, none⟩ = some (.int .i64 y.k) ∧ w'.cell? ⟨b, o + k * 4 + 2, none⟩ = some (.int .i64 y.o))
            (first
              | exact ⟨u0, u1, u2, u3, u4, u5, u6⟩
              | exact HS.out _ ((Below.refl _ _).drew.trans hB3)
              | exact HS.out _ (((Below.refl _ _).drew.trans hB3).trans (hB4.mono hB3.size)))
            (first
              | (go_at_call 23; refine (HFV.out _ ((Below.refl _ _).drew.trans hB3)).mono ?_; rintro e w4 ⟨rfl, hB4⟩)
              | (go_at_call 22; refine (HRV.out _ (Below.refl _ _).drew).mono ?_; rintro e w3 ⟨rfl, hB3⟩))
        · have HM := Lib.hid (show checkC c l = ((k : Int), 42) by
            unfold checkC; rw [if_neg (by rw [H1.out]; simp), if_neg (by have := HN.out; omega), misfit_at HY.out.1 HY.out.2 HZ.out HQ.out, if_neg (by omega)])
          go_wp2
          go_ret2
          exact ⟨by rw [HM.out]; rfl, (HBA.out.drew.trans (hB3.mono HBA.out.size)).trans (hB4.mono (HBA.out.drew.trans (hB3.mono HBA.out.size)).size)⟩
        · go_wp2
          go_roundw
          case rel =>
            refine ⟨k + 1, by omega, by go_num, (BW.out.drew.trans (hB3.mono BW.out.size)).trans (hB4.mono (BW.out.drew.trans (hB3.mono BW.out.size)).size), fun j q hj hq => ?_⟩
            rcases Nat.lt_or_ge j k with h | h
            · exact HZ.out j q h hq
            · obtain rfl : j = k := by omega
              obtain ⟨h1, h2⟩ := List.getElem?_zip_eq_some.1 hq
              rw [HY.out.1] at h1; rw [HY.out.2] at h2
              unfold misfit
              rw [← Option.some.inj h1, ← Option.some.inj h2, HQ.out]; rfl
          case measure => simp [intOf]; omega
    · have hkk : k = l.length := by omega
      subst hkk
      have j1 : ¬ (l.length : Int) < (l.length : Int) := by omega
      have HC := Lib.hid (show checkC c l = (0, 0) by
        unfold checkC
        have hz : (c.l.zip l).length = l.length := by rw [List.length_zip]; have := HN.out; omega
        rw [if_neg (by rw [H1.out]; simp), if_neg (by have := HN.out; omega), firstOf_at misfit (c.l.zip l) 0 l.length (by omega) HZ.out, List.drop_eq_nil_of_le (by omega)]; rfl)
      go_wp2
      go_ret2
      exact ⟨by rw [HC.out]; rfl, B1.out.trans (BW.out.mono B1.out.size)⟩
end Go.Proofs.YtmobnlofbopbeaaDoor.Cls
