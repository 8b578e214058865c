/- The document's own answer for values: Right. -/
import Derived.Test.YtbmhlpojgiminaaGreatDoorMD
import Derived.Test.YtbmhlpojgiminaaGreatDoorValFits
import Derived.Test.YtbmhlpojgiminaaGreatDoorValBs
import Derived.Deep.RegionWith
namespace Go.Proofs.YtbmhlpojgiminaaGreatDoor.Val
open Go.RowKit
open Kit (ret_int ret_bool)

attribute [local go_sem] Oper.semAt_some

set_option maxRecDepth 100000 in
set_option maxHeartbeats 4000000 in
theorem refRight_flat (x : Vl) (hs : x.s.size ≤ 140737488351232) (h5 : x.k ≠ 5) (B : Nat) (w : World) (v : Value) (hr : Rep B w x v) :
    Calls Tryz.prog 12 #[v] w fun e w' => e = .returned (.bool (rightF x)) ∧ Below w.heap.size w w' := by
  obtain ⟨lv, rfl, hl⟩ := rep_of hr
  obtain ⟨a1, c1, rfl, z1⟩ := hl.len
  have k5 : (x.k == 5) = false := by simpa using h5
  have hle := empty_len x.l
  have hB1 := boxed w x.k x.n x.s (.slice a1 x.l.length c1)
  have HT := Lib.hid (fun W => isText_any x.s hs W)
  have hrt := isText_rightT x.s
  unfold rightF
  rw [hle, ← hrt]
  clear hl hr h5 hle hrt
  unfold maxLen at z1
  obtain ⟨L, hL⟩ : ∃ L, L = ((x.l.length : Int) == 0) := ⟨_, rfl⟩
  have hL2 := hL.symm
  by_cases k2 : x.k = 2
  · rw [if_pos k2, hL2]
    have k2b : (x.k == 2) = true := by simpa using k2
    have k0b : (x.k == 0) = false := by simp; omega
    have k1b : (x.k == 1) = false := by simp; omega
    by_cases h60 : x.s.size ≤ 60
    all_goals
      have d60 : decide (x.s.size ≤ 60) = decide (x.s.size ≤ 60) := rfl
      cases ht : isTextB x.s
      all_goals
        rw [ht] at HT
        cases hn : x.n == 0
        all_goals
          cases L
          all_goals
            have hR := Lib.hid (show (decide (x.s.size ≤ 60)) = decide (x.s.size ≤ 60) from rfl)
            clear k2 hL d60 ht
            first
              | (have i60 : (x.s.size : Int) ≤ 60 := by omega)
              | (have i60 : ¬ (x.s.size : Int) ≤ 60 := by omega)
            go_enter Tryz.func12, Tryz.ntmps12
            go_wp2_with fail
            refine (HT.out _).mono ?_; rintro e w' ⟨rfl, rfl⟩
            go_wp2
            go_ret
            exact ⟨ret_bool (by simp [h60]), hB1⟩
  · rw [if_neg k2, hL2]
    have k2b : (x.k == 2) = false := by simpa using k2
    clear k2 HT
    obtain ⟨E, hE⟩ : ∃ E, E = x.s.data.toList.isEmpty := ⟨_, rfl⟩
    have hE2 : x.s.toList.isEmpty = E := by rw [hE, ByteArray.toList_eq]
    rw [← hE]
    by_cases k0 : x.k = 0
    · have k0b : (x.k == 0) = true := by simpa using k0
      have hN : rightN x.k x.n = (x.n == 0) := by unfold rightN; rw [if_pos k0]
      rw [hN]
      clear k0 hN hL hE
      cases hn : x.n == 0 <;> cases E <;> cases L
      all_goals
        go_enter Tryz.func12, Tryz.ntmps12
        go_wp2
        go_ret
        exact ⟨ret_bool (by simp), hB1⟩
    · have k0b : (x.k == 0) = false := by simpa using k0
      by_cases k1 : x.k = 1
      · have k1b : (x.k == 1) = true := by simpa using k1
        have hN : rightN x.k x.n = (decide (-1000000000000000 ≤ x.n) && decide (x.n ≤ 1000000000000000)) := by unfold rightN; rw [if_neg k0, if_pos k1]
        rw [hN]
        clear k0 k1 hN hL hE
        rcases (show (-1000000000000000 ≤ x.n ∧ x.n ≤ 1000000000000000) ∨ (-1000000000000000 ≤ x.n ∧ ¬ x.n ≤ 1000000000000000) ∨ (¬ -1000000000000000 ≤ x.n ∧ x.n ≤ 1000000000000000) by omega) with ⟨m1, m2⟩ | ⟨m1, m2⟩ | ⟨m1, m2⟩ <;> cases E <;> cases L
        all_goals
          go_enter Tryz.func12, Tryz.ntmps12
          go_wp2
          go_ret
          exact ⟨ret_bool (by simp [m1, m2]), hB1⟩
      · have k1b : (x.k == 1) = false := by simpa using k1
        by_cases k34 : x.k = 3 ∨ x.k = 4
        · have h34 : (x.k == 3) = true ∨ ((x.k == 3) = false ∧ (x.k == 4) = true) := by rcases k34 with h | h <;> simp [h]
          have hN : rightN x.k x.n = ((decide (1 ≤ x.n) && decide (x.n ≤ 100000)) || (decide (-20 ≤ x.n) && decide (x.n ≤ -1))) := by unfold rightN; rw [if_neg k0, if_neg k1, if_pos k34]
          rw [hN]
          clear k0 k1 hN hL hE k34
          rcases (show (1 ≤ x.n ∧ x.n ≤ 100000) ∨ (1 ≤ x.n ∧ ¬ x.n ≤ 100000) ∨ (¬ 1 ≤ x.n ∧ -20 ≤ x.n ∧ x.n ≤ -1) ∨ (¬ 1 ≤ x.n ∧ -20 ≤ x.n ∧ ¬ x.n ≤ -1) ∨ (¬ 1 ≤ x.n ∧ ¬ -20 ≤ x.n) by omega) with ⟨m1, m2⟩ | ⟨m1, m2⟩ | ⟨m1, m3, m4⟩ | ⟨m1, m3, m4⟩ | ⟨m1, m3⟩
          case' inr.inl => have m3 : -20 ≤ x.n := by omega
          case' inr.inl => have m4 : ¬ x.n ≤ -1 := by omega
          all_goals
            rcases h34 with k3 | ⟨k3, k4⟩ <;> cases E <;> cases L
            all_goals
              go_enter Tryz.func12, Tryz.ntmps12
              go_wp2
              go_ret
              exact ⟨ret_bool (by first | (simp [*]; done) | (simp [*]; omega)), hB1⟩
        · have k3b : (x.k == 3) = false := by simp; omega
          have k4b : (x.k == 4) = false := by simp; omega
          have hN : rightN x.k x.n = false := by unfold rightN; rw [if_neg k0, if_neg k1, if_neg k34]
          rw [hN]
          clear k0 k1 hN hL hE k34 hE2 hL2
          go_enter Tryz.func12, Tryz.ntmps12
          go_wp2
          go_ret
          exact ⟨ret_bool (by simp), hB1⟩
end Go.Proofs.YtbmhlpojgiminaaGreatDoor.Val
/- The document's own answer for values: Right, of lists. -/
namespace Go.Proofs.YtbmhlpojgiminaaGreatDoor.Val
open Go.RowKit
open Kit (ret_int ret_bool)

attribute [local go_sem] Oper.semAt_some

theorem any_at {l : List Vl} {k : Nat} {y : Vl} (hy : l[k]? = some y) (hw : wrongIn y = true) : l.any wrongIn = true := List.any_eq_true.2 ⟨y, List.mem_of_getElem? hy, hw⟩
theorem any_end {l : List Vl} (h : ∀ i y, i < l.length → l[i]? = some y → wrongIn y = false) : l.any wrongIn = false := by
  rw [Bool.eq_false_iff]
  intro h2
  obtain ⟨y, hy, hw⟩ := List.any_eq_true.1 h2
  obtain ⟨i, hi⟩ := List.getElem?_of_mem hy
  rw [h i y (List.getElem?_eq_some_iff.1 hi).1 hi] at hw
  cases hw

set_option maxRecDepth 100000 in
set_option maxHeartbeats 4000000 in
theorem refRight_list (x : Vl) (hs : x.fits) (h5 : x.k = 5) (B : Nat) (w : World) (v : Value) (hB : B ≤ w.heap.size) (hr : Rep B w x v) :
    Calls Tryz.prog 12 #[v] w fun e w' => e = .returned (.bool (rightV x)) ∧ Below w.heap.size w w' := by
  obtain ⟨lv, rfl, hl⟩ := rep_of hr
  obtain ⟨a1, c1, rfl, z1⟩ := hl.len
  have hB1 := boxed w x.k x.n x.s (.slice a1 x.l.length c1)
  have P := Lib.hid (Kit.box4_new w (.int .i64 x.k) (.int .i64 x.n) (.string x.s) (.slice a1 x.l.length c1) 30)
  have hv : rightV x = (decide (x.l.length ≤ 12) && x.n == 0 && x.s.data.toList.isEmpty && !x.l.any wrongIn) := by unfold rightV; rw [if_pos h5]
  rw [hv]
  have k5 : (x.k == 5) = true := by simpa using h5
  have k0 : (x.k == 0) = false := by simp; omega
  have k1 : (x.k == 1) = false := by simp; omega
  have k2 : (x.k == 2) = false := by simp; omega
  have k3 : (x.k == 3) = false := by simp; omega
  have k4 : (x.k == 4) = false := by simp; omega
  have HL := Lib.hid (And.intro hl (And.intro hs.2 hB))
  have BB := Lib.hid hB1
  obtain ⟨E, hE⟩ : ∃ E, E = x.s.data.toList.isEmpty := ⟨_, rfl⟩
  have hE2 : x.s.toList.isEmpty = E := by rw [hE, ByteArray.toList_eq]
  rw [← hE]
  clear hl hr h5 hv hE hs hB hB1
  unfold maxLen at z1
  by_cases hn : x.n = 0
  case neg =>
    have n0 : (x.n == 0) = false := by simpa using hn
    have n1 : (x.n != 0) = true := by simp [hn]
    clear hn
    rw [n0]
    go_enter Tryz.func12, Tryz.ntmps12
    go_wp2
    go_ret
    exact ⟨ret_bool (by simp), BB.out⟩
  case pos =>
  have n0 : (x.n == 0) = true := by simpa using hn
  have n1 : (x.n != 0) = false := by simp [hn]
  clear hn
  rw [n0, Bool.and_true]
  cases E
  · rw [Bool.and_false, Bool.false_and]
    go_enter Tryz.func12, Tryz.ntmps12
    go_wp2
    go_ret
    exact ⟨rfl, BB.out⟩
  rw [Bool.and_true]
  by_cases h12 : x.l.length ≤ 12
  case neg =>
    have i12 : (12 : Int) < (x.l.length : Int) := by omega
    rw [decide_eq_false h12, Bool.false_and]
    go_enter Tryz.func12, Tryz.ntmps12
    go_wp2
    go_ret
    exact ⟨rfl, BB.out⟩
  case pos =>
  have i12 : ¬ (12 : Int) < (x.l.length : Int) := by omega
  rw [decide_eq_true h12, Bool.true_and]
  go_enter Tryz.func12, Tryz.ntmps12
  go_upto_region 15 with fail
  generalize w.alloc (.cells #[.int .i64 x.k, .int .i64 x.n, .string x.s, .slice a1 x.l.length c1] 30) = W0 at *
  go_wp2_with fail
  go_loopw [4] (fun i wr => ∃ k : Nat, k ≤ x.l.length ∧ i = .int .i64 k ∧ Below W0.heap.size W0 wr ∧ ∀ j y, j < k → x.l[j]? = some y → wrongIn y = false) (fun i _ => x.l.length - (intOf i).toNat)
  case atStart => exact ⟨0, by omega, rfl, Below.refl _ _, fun j y h => by omega⟩
  case round =>
    obtain ⟨k, hk, rfl, hBW, hz⟩ := hrel
    have BW := Lib.hid hBW
    have HZ := Lib.hid hz
    obtain ⟨q0, q1, q2, q3⟩ := P.out.below hBW (Kit.lt_of_cell P.out.1)
    clear hBW hz
    by_cases hlt : k < x.l.length
    · have j1 : (k : Int) < (x.l.length : Int) := by omega
      obtain ⟨y, hy⟩ : ∃ y, x.l[k]? = some y := ⟨_, List.getElem?_eq_getElem hlt⟩
      obtain ⟨b, o, c, lw, he, hb, ⟨r0, r1, r2, r3⟩, hlw⟩ := HL.out.1.at hy
      cases he
      obtain ⟨a3, c3, rfl, -⟩ := hlw.len
      have hBA : Below w.heap.size w wr := BB.out.trans (BW.out.mono BB.out.size)
      have hbs : b < w.heap.size := by have := HL.out.2.2; omega
      have s0 := (hBA.cell (p := ⟨b, o + k * 4, none⟩) hbs).trans r0
      have s1 := (hBA.cell (p := ⟨b, o + k * 4 + 1, none⟩) hbs).trans r1
      have s2 := (hBA.cell (p := ⟨b, o + k * 4 + 2, none⟩) hbs).trans r2
      have s3 := (hBA.cell (p := ⟨b, o + k * 4 + 3, none⟩) hbs).trans r3
      have HY := Lib.hid hy
      have HR := Lib.hid (show Rep B wr y (aggV y.k y.n y.s (.slice a3 y.l.length c3)) from (rep_in hlw).below hBA HL.out.2.2)
      clear r0 r1 r2 r3 hlw hBA hy hbs
      cases hy5 : (y.k == 5)
      · have h5n : y.k ≠ 5 := by simpa using hy5
        have HCC := refRight_flat y (HL.out.2.1 y (List.mem_of_getElem? HY.out)) h5n B wr _ HR.out
        have hwr : wrongIn y = !rightF y := by unfold wrongIn; rw [hy5, Bool.false_or]
        clear h5n
        cases hrf : rightF y
        all_goals
          rw [hrf] at HCC hwr
          have HCH := Lib.hid HCC
          have HW := Lib.hid hwr
          clear HCC hwr hrf
          go_wp2_with fail
          refine HCH.out.mono ?_; rintro e w3 ⟨rfl, hB3⟩
        · have HA := Lib.hid (any_at HY.out HW.out)
          go_wp2
          go_ret
          exact ⟨ret_bool (by rw [HA.out]; rfl), BB.out.trans ((BW.out.trans (hB3.mono BW.out.size)).mono BB.out.size)⟩
        · go_wp2
          go_roundw
          case rel =>
            refine ⟨k + 1, by omega, by go_num, BW.out.trans (hB3.mono BW.out.size), fun j q hj hq => ?_⟩
            rcases Nat.lt_or_ge j k with h | h
            · exact HZ.out j q h hq
            · obtain rfl : j = k := by omega
              rw [HY.out] at hq; cases hq
              exact HW.out
          case measure => simp [intOf]; omega
      · have HA := Lib.hid (any_at HY.out (show wrongIn y = true by unfold wrongIn; rw [hy5]; rfl))
        go_wp2
        go_ret
        exact ⟨ret_bool (by rw [HA.out]; rfl), BB.out.trans (BW.out.mono BB.out.size)⟩
    · have hkk : k = x.l.length := by omega
      subst hkk
      have j1 : ¬ (x.l.length : Int) < (x.l.length : Int) := by omega
      go_wp2
      go_ret
      exact ⟨ret_bool (by rw [any_end HZ.out]; rfl), BB.out.trans (BW.out.mono BB.out.size)⟩
theorem refRight_any (x : Vl) (hs : x.fits) (B : Nat) (w : World) (v : Value) (hB : B ≤ w.heap.size) (hr : Rep B w x v) :
    Calls Tryz.prog 12 #[v] w fun e w' => e = .returned (.bool (rightV x)) ∧ Below w.heap.size w w' := by
  by_cases h5 : x.k = 5
  · exact refRight_list x hs h5 B w v hB hr
  · rw [show rightV x = rightF x by unfold rightV; rw [if_neg h5]]
    exact refRight_flat x hs.1 h5 B w v hr
end Go.Proofs.YtbmhlpojgiminaaGreatDoor.Val
/- The document's own answer for values: types, kinds. -/
namespace Go.Proofs.YtbmhlpojgiminaaGreatDoor.Val
open Go.RowKit
open Kit (ret_int ret_bool)

attribute [local go_sem] Oper.semAt_some

theorem plain_any (k : Int) (w : World) : Calls Tryz.prog 76 #[.int .i64 k] w fun e w' => e = .returned (.bool (inK k)) ∧ w = w' := by
  unfold inK
  by_cases a : 1 ≤ k
  · rw [decide_eq_true a, Bool.true_and]
    by_cases b : k ≤ 4
    all_goals
      go_enter Tryz.func76, Tryz.ntmps76
      go_wp2
      go_ret
      exact ⟨ret_bool (by simp [*]), rfl⟩
  · rw [decide_eq_false a, Bool.false_and]
    go_enter Tryz.func76, Tryz.ntmps76
    go_wp2
    go_ret
    exact ⟨rfl, rfl⟩
theorem refRightType_any (K O : Int) (w : World) : Calls Tryz.prog 50 #[.agg #[.int .i64 K, .int .i64 O]] w fun e w' => e = .returned (.bool (rightTy K O)) ∧ Below w.heap.size w w' := by
  have hB := Kit.below_alloc w (.cells #[.int .i64 K, .int .i64 O] 26)
  unfold rightTy
  by_cases k5 : K = 5
  · rw [if_pos k5]
    have k5b : (K == 5) = true := by simpa using k5
    clear k5
    go_enter Tryz.func50, Tryz.ntmps50
    go_wp2_with fail
    refine (plain_any O _).mono ?_; rintro e w' ⟨rfl, rfl⟩
    go_wp2
    go_ret
    exact ⟨rfl, hB⟩
  · rw [if_neg k5]
    have k5b : (K == 5) = false := by simpa using k5
    clear k5
    have HP := Lib.hid (fun W => plain_any K W)
    cases hk : inK K
    all_goals
      rw [hk] at HP
      clear hk
      go_enter Tryz.func50, Tryz.ntmps50
      go_wp2_with fail
      refine (HP.out _).mono ?_; rintro e w' ⟨rfl, rfl⟩
      go_wp2
      go_ret
      exact ⟨ret_bool (by simp), hB⟩
theorem refKind_any (k n : Int) (s : ByteArray) (lv : Value) (K : Int) (w : World) : Calls Tryz.prog 51 #[aggV k n s lv, .int .i64 K] w fun e w' => e = .returned (.bool (fitsK k K)) ∧ Below w.heap.size w w' := by
  have hB := boxed w k n s lv
  unfold fitsK isRefK
  cases a : k == K
  · cases b : k == 0
    · go_enter Tryz.func51, Tryz.ntmps51
      go_wp2
      go_ret
      exact ⟨rfl, hB⟩
    · cases c : K == 3
      all_goals
        go_enter Tryz.func51, Tryz.ntmps51
        go_wp2
        go_ret
        exact ⟨ret_bool (by simp), hB⟩
  · go_enter Tryz.func51, Tryz.ntmps51
    go_wp2
    go_ret
    exact ⟨rfl, hB⟩
end Go.Proofs.YtbmhlpojgiminaaGreatDoor.Val
/- The document's own answer for values: Fits. -/
namespace Go.Proofs.YtbmhlpojgiminaaGreatDoor.Val
open Go.RowKit
open Kit (ret_int ret_bool)

attribute [local go_sem] Oper.semAt_some

set_option maxRecDepth 100000 in
set_option maxHeartbeats 4000000 in
theorem refFits_any (x : Vl) (hf : x.fits) (K O : Int) (B : Nat) (w : World) (v : Value) (hB : B ≤ w.heap.size) (hr : Rep B w x v) :
    Calls Tryz.prog 24 #[v, .agg #[.int .i64 K, .int .i64 O]] w fun e w' => e = .returned (.bool (fitsV x K O)) ∧ Below w.heap.size w w' := by
  obtain ⟨lv, rfl, hl⟩ := rep_of hr
  obtain ⟨a1, c1, rfl, z1⟩ := hl.len
  unfold maxLen at z1
  have hB2 := Kit.below_alloc2 w (.cells #[.int .i64 x.k, .int .i64 x.n, .string x.s, .slice a1 x.l.length c1] 30) (.cells #[.int .i64 K, .int .i64 O] 26)
  have hp := (Kit.box4_new w (.int .i64 x.k) (.int .i64 x.n) (.string x.s) (.slice a1 x.l.length c1) 30).kept (.cells #[.int .i64 K, .int .i64 O] 26)
  have ht0 := Kit.cell_new (w.alloc (.cells #[.int .i64 x.k, .int .i64 x.n, .string x.s, .slice a1 x.l.length c1] 30)) #[.int .i64 K, .int .i64 O] 26 0 rfl
  have ht1 := Kit.cell_new (w.alloc (.cells #[.int .i64 x.k, .int .i64 x.n, .string x.s, .slice a1 x.l.length c1] 30)) #[.int .i64 K, .int .i64 O] 26 1 rfl
  rw [World.size_alloc] at ht0 ht1
  have hv : fitsV x K O = (rightTy K O && (rightV x && (fitsK x.k K && x.l.all fun y => fitsK y.k O))) := rfl
  rw [hv]
  have HL := Lib.hid (And.intro hl hB)
  have BB := Lib.hid hB2
  have HC := Lib.hid (fun W (h : Below w.heap.size w W) => refRight_any x hf W.heap.size W _ (Nat.le_refl _) ((hr.below h hB).mono (Nat.le_trans hB h.size)))
  have P := Lib.hid (And.intro hp (And.intro ht0 ht1))
  clear hl hr hv hB2 hp ht0 ht1 hf hB
  obtain ⟨⟨q0, q1, q2, q3⟩, u0, u1⟩ := P.out
  go_enter Tryz.func24, Tryz.ntmps24
  go_upto_region 1 with fail
  generalize (w.alloc (.cells #[.int .i64 x.k, .int .i64 x.n, .string x.s, .slice a1 x.l.length c1] 30)).alloc (.cells #[.int .i64 K, .int .i64 O] 26) = W0 at *
  go_wp2_with fail
  refine (HC.out _ BB.out).mono ?_; rintro e W1 ⟨rfl, hB1⟩
  have P1 := Lib.hid (And.intro (P.out.1.below hB1 P.out.1.lt) (And.intro ((hB1.cell (p := ⟨w.heap.size + 1, 0, none⟩) (Kit.lt_of_cell P.out.2.1)).trans P.out.2.1) ((hB1.cell (p := ⟨w.heap.size + 1, 1, none⟩) (Kit.lt_of_cell P.out.2.2)).trans P.out.2.2)))
  have B1 := Lib.hid (BB.out.trans (hB1.mono BB.out.size))
  clear hB1 BB P q0 q1 q2 q3 u0 u1 HC
  obtain ⟨⟨q0, q1, q2, q3⟩, u0, u1⟩ := P1.out
  go_wp2_with fail
  refine (refRightType_any K O _).mono ?_; rintro e W2 ⟨rfl, hB2⟩
  have P2 := Lib.hid (And.intro (P1.out.1.below hB2 P1.out.1.lt) (And.intro ((hB2.cell (p := ⟨w.heap.size + 1, 0, none⟩) (Kit.lt_of_cell P1.out.2.1)).trans P1.out.2.1) ((hB2.cell (p := ⟨w.heap.size + 1, 1, none⟩) (Kit.lt_of_cell P1.out.2.2)).trans P1.out.2.2)))
  have B2 := Lib.hid (B1.out.trans (hB2.mono B1.out.size))
  clear hB2 B1 P1 q0 q1 q2 q3 u0 u1
  cases ha : rightV x
  · have HA := Lib.hid ha
    clear ha
    go_wp2
    go_ret
    exact ⟨ret_bool (by rw [HA.out]; simp), B2.out⟩
  cases hb : rightTy K O
  · have HA := Lib.hid hb
    clear hb ha
    go_wp2
    go_ret
    exact ⟨ret_bool (by rw [HA.out]; simp), B2.out⟩
  have HAB := Lib.hid (And.intro ha hb)
  obtain ⟨⟨q0, q1, q2, q3⟩, u0, u1⟩ := P2.out
  have HK := Lib.hid (fun W => refKind_any x.k x.n x.s (.slice a1 x.l.length c1) K W)
  clear ha hb
  cases hc : fitsK x.k K
  all_goals
    rw [hc] at HK
    have HF := Lib.hid hc
    clear hc
    go_wp2_with fail
    refine (HK.out _).mono ?_; rintro e W3 ⟨rfl, hB3⟩
    have P3 := Lib.hid (And.intro (P2.out.1.below hB3 P2.out.1.lt) (And.intro ((hB3.cell (p := ⟨w.heap.size + 1, 0, none⟩) (Kit.lt_of_cell P2.out.2.1)).trans P2.out.2.1) ((hB3.cell (p := ⟨w.heap.size + 1, 1, none⟩) (Kit.lt_of_cell P2.out.2.2)).trans P2.out.2.2)))
    have B3 := Lib.hid (B2.out.trans (hB3.mono B2.out.size))
    clear hB3 B2 P2 q0 q1 q2 q3 u0 u1 HK
  · go_wp2
    go_ret
    exact ⟨ret_bool (by rw [HF.out]; simp), B3.out⟩
  go_wp2_with fail
  go_loopw [7] (fun i wr => ∃ k : Nat, k ≤ x.l.length ∧ i = .int .i64 k ∧ Below W3.heap.size W3 wr ∧ ∀ j y, j < k → x.l[j]? = some y → fitsK y.k O = true) (fun i _ => x.l.length - (intOf i).toNat)
  case atStart => exact ⟨0, by omega, rfl, Below.refl _ _, fun j y h => by omega⟩
  case round =>
    obtain ⟨k, hk, rfl, hBW, hz⟩ := hrel
    have BW := Lib.hid hBW
    have HZ := Lib.hid hz
    obtain ⟨q0, q1, q2, q3⟩ := P3.out.1.below hBW P3.out.1.lt
    have u1 := (hBW.cell (p := ⟨w.heap.size + 1, 1, none⟩) (Kit.lt_of_cell P3.out.2.2)).trans P3.out.2.2
    clear hBW hz q0 q1 q2
    by_cases hlt : k < x.l.length
    · have j1 : (k : Int) < (x.l.length : Int) := by omega
      obtain ⟨y, hy⟩ : ∃ y, x.l[k]? = some y := ⟨_, List.getElem?_eq_getElem hlt⟩
      obtain ⟨b, o, c, lw, he, hb, ⟨r0, r1, r2, r3⟩, -⟩ := HL.out.1.at hy
      cases he
      have hBA : Below w.heap.size w wr := B3.out.trans (BW.out.mono B3.out.size)
      have hbs : b < w.heap.size := by have := HL.out.2; omega
      have s0 := (hBA.cell (p := ⟨b, o + k * 4, none⟩) hbs).trans r0
      have s1 := (hBA.cell (p := ⟨b, o + k * 4 + 1, none⟩) hbs).trans r1
      have s2 := (hBA.cell (p := ⟨b, o + k * 4 + 2, none⟩) hbs).trans r2
      have s3 := (hBA.cell (p := ⟨b, o + k * 4 + 3, none⟩) hbs).trans r3
      have HY := Lib.hid hy
      have HK := Lib.hid (fun W => refKind_any y.k y.n y.s lw O W)
      clear r0 r1 r2 r3 hBA hy hbs
      go_upto_region 8 with fail
      cases hq : fitsK y.k O
      all_goals
        rw [hq] at HK
        have HQ := Lib.hid hq
        clear hq
      · have HA := Lib.hid (show (x.l.all fun y => fitsK y.k O) = false from all_at HZ.out HY.out HQ.out)
        go_region_with (refine (HK.out _).mono ?_; rintro e W4 ⟨rfl, hB4⟩)
        all_goals
          go_wp2
          go_ret
          exact ⟨ret_bool (by rw [HA.out]; simp), (B3.out.trans (BW.out.mono B3.out.size)).drew.trans (hB4.mono (B3.out.trans (BW.out.mono B3.out.size)).size)⟩
      · go_region_with (refine (HK.out _).mono ?_; rintro e W4 ⟨rfl, hB4⟩)
        all_goals
          go_wp2
          go_roundw
          case rel =>
            refine ⟨k + 1, by omega, by go_num, ?_, fun j q hj hq => ?_⟩
            · exact BW.out.drew.trans (hB4.mono BW.out.size)
            · rcases Nat.lt_or_ge j k with h | h
              · exact HZ.out j q h hq
              · obtain rfl : j = k := by omega
                rw [HY.out] at hq; cases hq
                exact HQ.out
          case measure => simp [intOf]; omega
    · have hkk : k = x.l.length := by omega
      subst hkk
      have j1 : ¬ (x.l.length : Int) < (x.l.length : Int) := by omega
      have HA := Lib.hid (all_end (O := O) HZ.out)
      go_wp2
      go_ret
      exact ⟨ret_bool (by rw [HAB.out.1, HAB.out.2, HF.out, HA.out]; rfl), B3.out.trans (BW.out.mono B3.out.size)⟩
end Go.Proofs.YtbmhlpojgiminaaGreatDoor.Val
