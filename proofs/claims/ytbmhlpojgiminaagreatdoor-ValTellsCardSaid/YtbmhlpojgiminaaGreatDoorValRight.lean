/- Layer 3: Right. -/
import Derived.Test.YtbmhlpojgiminaaGreatDoorValEnv
import Derived.Test.YtbmhlpojgiminaaGreatDoorBox
import Derived.WalkLawsBesides
import Derived.WalkSpells
import Derived.StillTailTactics
import Derived.Deep.QuietTactic
import Derived.BigQuiet
import Derived.Lib.Hide
import Derived.Deep.Cut
import Derived.Outline
import Derived.Test.YtbmhlpojgiminaaGreatDoorVal
namespace Go.Proofs.YtbmhlpojgiminaaGreatDoor.Val
open Go.RowKit
open Kit (ret_int ret_bool)

/-- May n be the number of a value of a kind without text and list? -/
def rightN (k n : Int) : Bool :=
  if k = 0 then n == 0 else if k = 1 then decide (-1000000000000000 ≤ n) && decide (n ≤ 1000000000000000)
  else if k = 3 ∨ k = 4 then (decide (1 ≤ n) && decide (n ≤ 100000)) || (decide (-20 ≤ n) && decide (n ≤ -1)) else false
def rightT (s : ByteArray) : Bool := decide (s.size ≤ 60) && Lib.validD s.data.toList && !hasCtl s
def rightC (n : Int) : Bool := decide (0 ≤ n) && decide (n ≤ 12)
/-- Is a value that is no list right? -/
def rightF (x : Vl) : Bool := if x.k = 2 then rightT x.s && x.n == 0 && x.l.isEmpty else rightN x.k x.n && x.s.data.toList.isEmpty && x.l.isEmpty
/-- Is a value wrong in a list? -/
def wrongIn (x : Vl) : Bool := x.k == 5 || !rightF x
def rightV (x : Vl) : Bool := if x.k = 5 then decide (x.l.length ≤ 12) && x.n == 0 && x.s.data.toList.isEmpty && !x.l.any wrongIn else rightF x

set_option maxRecDepth 100000 in
theorem rightNumber_any (k n : Int) (w : World) : Calls Tryz.prog 39 #[.int .i64 k, .int .i64 n] w fun e w' => e = .returned (.bool (rightN k n)) ∧ w = w' := by
  unfold rightN
  by_cases h0 : k = 0
  · subst h0
    rw [if_pos rfl]
    go_enter Tryz.func39, Tryz.ntmps39
    go_wp2
    go_ret
    exact ⟨rfl, rfl⟩
  · rw [if_neg h0]
    have k0 : (k == 0) = false := by simpa using h0
    by_cases h1 : k = 1
    · subst h1
      rw [if_pos rfl]
      by_cases a : -1000000000000000 ≤ n
      · rw [decide_eq_true a, Bool.true_and]
        go_enter Tryz.func39, Tryz.ntmps39
        go_wp2
        go_ret
        exact ⟨rfl, rfl⟩
      · rw [decide_eq_false a, Bool.false_and]
        go_enter Tryz.func39, Tryz.ntmps39
        go_wp2
        go_ret
        exact ⟨rfl, rfl⟩
    · rw [if_neg h1]
      have k1 : (k == 1) = false := by simpa using h1
      by_cases h3 : k = 3 ∨ k = 4
      · rw [if_pos h3]
        by_cases a : 1 ≤ n <;> by_cases b : n ≤ 100000
        all_goals by_cases c : -20 ≤ n <;> by_cases d : n ≤ -1
        all_goals first | omega | skip
        all_goals first
          | rw [show ((decide (1 ≤ n) && decide (n ≤ 100000)) || (decide (-20 ≤ n) && decide (n ≤ -1))) = true from by simp; omega]
          | rw [show ((decide (1 ≤ n) && decide (n ≤ 100000)) || (decide (-20 ≤ n) && decide (n ≤ -1))) = false from by simp; omega]
        all_goals rcases h3 with rfl | rfl
        all_goals
          clear h0 h1 k0 k1
          go_enter Tryz.func39, Tryz.ntmps39
          go_wp2
          go_ret
          exact ⟨rfl, rfl⟩
      · rw [if_neg h3]
        have k3 : (k == 3) = false := by simp; omega
        have k4 : (k == 4) = false := by simp; omega
        clear h0 h1 h3
        go_enter Tryz.func39, Tryz.ntmps39
        go_wp2
        go_ret
        exact ⟨rfl, rfl⟩

theorem rightCount_any (n : Int) (w : World) : Calls Tryz.prog 36 #[.int .i64 n] w fun e w' => e = .returned (.bool (rightC n)) ∧ w = w' := by
  unfold rightC
  by_cases a : 0 ≤ n
  · rw [decide_eq_true a, Bool.true_and]
    go_enter Tryz.func36, Tryz.ntmps36
    go_wp2
    go_ret
    exact ⟨rfl, rfl⟩
  · rw [decide_eq_false a, Bool.false_and]
    go_enter Tryz.func36, Tryz.ntmps36
    go_wp2
    go_ret
    exact ⟨rfl, rfl⟩

set_option maxRecDepth 100000 in
theorem rightText_any (ae : Addr) (s : ByteArray) (hs : s.size ≤ 140737488351232) (w : World) (hE : Env ae w) :
    Calls Tryz.prog 35 #[.string s] w fun e w' => e = .returned (.bool (rightT s)) ∧ Below w.heap.size w w' := by
  unfold rightT
  have HV := Lib.hid (valid_any s hs w hE.tabs)
  clear hE
  by_cases h : s.size ≤ 60
  · have h2 : (s.size : Int) ≤ 60 := by omega
    rw [decide_eq_true h, Bool.true_and]
    cases hv : Lib.validD s.data.toList
    · rw [Bool.false_and]
      rw [hv] at HV
      clear hv
      go_enter Tryz.func35, Tryz.ntmps35
      go_wp2_with fail
      refine HV.out.mono ?_; rintro e w' ⟨rfl, hB⟩
      go_wp2
      go_ret
      exact ⟨rfl, hB⟩
    · rw [Bool.true_and]
      rw [hv] at HV
      clear hv
      go_enter Tryz.func35, Tryz.ntmps35
      go_wp2_with fail
      refine HV.out.mono ?_; rintro e w' ⟨rfl, hB⟩
      go_wp2_with fail
      refine (contains_any s _).mono ?_; rintro e w2 ⟨rfl, hB2⟩
      go_wp2
      go_ret
      exact ⟨rfl, hB.trans (hB2.mono hB.size)⟩
  · have h2 : ¬ (s.size : Int) ≤ 60 := by omega
    rw [decide_eq_false h, Bool.false_and, Bool.false_and]
    clear HV
    go_enter Tryz.func35, Tryz.ntmps35
    go_wp2
    go_ret
    exact ⟨rfl, Below.refl _ _⟩

/-- The worlds that a value by value call makes: its box. -/
theorem boxed (w : World) (k n : Int) (s : ByteArray) (lv : Value) : Below w.heap.size w (w.alloc (.cells #[.int .i64 k, .int .i64 n, .string s, lv] 30)) := Kit.below_alloc _ _

theorem empty_len (l : List Vl) : l.isEmpty = ((l.length : Int) == 0) := by
  cases l with
  | nil => rfl
  | cons a r => simp; omega
theorem str_ne {s : ByteArray} (h : s.data.toList.isEmpty = false) : s.toList.isEmpty = false := by rw [ByteArray.toList_eq]; exact h
theorem str_eq {s : ByteArray} (h : s.data.toList.isEmpty = true) : s.toList.isEmpty = true := by rw [ByteArray.toList_eq]; exact h

set_option maxRecDepth 100000 in
set_option maxHeartbeats 1000000 in
/-- Right, of what is no list. -/
theorem right_flat (ae : Addr) (x : Vl) (hs : x.s.size ≤ 140737488351232) (h5 : x.k ≠ 5) (B : Nat) (w : World) (v : Value) (hE : Env ae w) (hr : Rep B w x v) :
    Calls Tryz.prog 11 #[v] w fun e w' => e = .returned (.bool (rightF x)) ∧ Below w.heap.size w w' := by
  obtain ⟨lv, rfl, hl⟩ := rep_of hr
  obtain ⟨a1, c1, rfl, z1⟩ := hl.len
  have k5 : (x.k == 5) = false := by simpa using h5
  have hle := empty_len x.l
  have hB1 := boxed w x.k x.n x.s (.slice a1 x.l.length c1)
  have P := Lib.hid (Kit.box4_new w (.int .i64 x.k) (.int .i64 x.n) (.string x.s) (.slice a1 x.l.length c1) 30)
  have hE1 := hE.below hB1
  have HT := Lib.hid (fun W hW => rightText_any ae x.s hs W (hE1.below hW))
  unfold rightF
  rw [hle]
  clear hl hr hE hE1 h5 hle
  unfold maxLen at z1
  by_cases k2 : x.k = 2
  · rw [if_pos k2]
    have k2b : (x.k == 2) = true := by simpa using k2
    clear k2 k5
    cases ht : rightT x.s
    · rw [ht] at HT
      clear ht
      rw [Bool.false_and, Bool.false_and]
      go_enter Tryz.func11, Tryz.ntmps11
      go_wp2_with fail
      refine (HT.out _ (Below.refl _ _)).mono ?_; rintro e w' ⟨rfl, hB⟩
      obtain ⟨p0, p1, p2, p3⟩ := P.out.below hB (by simp)
      go_wp2
      go_ret
      exact ⟨rfl, hB1.trans (hB.mono hB1.size)⟩
    · rw [ht] at HT
      clear ht
      rw [Bool.true_and]
      cases hn : x.n == 0
      · rw [Bool.false_and]
        go_enter Tryz.func11, Tryz.ntmps11
        go_wp2_with fail
        refine (HT.out _ (Below.refl _ _)).mono ?_; rintro e w' ⟨rfl, hB⟩
        obtain ⟨p0, p1, p2, p3⟩ := P.out.below hB (by simp)
        go_wp2
        go_ret
        exact ⟨rfl, hB1.trans (hB.mono hB1.size)⟩
      · rw [Bool.true_and]
        go_enter Tryz.func11, Tryz.ntmps11
        go_wp2_with fail
        refine (HT.out _ (Below.refl _ _)).mono ?_; rintro e w' ⟨rfl, hB⟩
        obtain ⟨p0, p1, p2, p3⟩ := P.out.below hB (by simp)
        go_wp2
        go_ret
        exact ⟨rfl, hB1.trans (hB.mono hB1.size)⟩
  · rw [if_neg k2]
    have k2b : (x.k == 2) = false := by simpa using k2
    clear k2 HT P
    cases hn : rightN x.k x.n
    · rw [Bool.false_and, Bool.false_and]
      go_enter Tryz.func11, Tryz.ntmps11
      go_wp2_with fail
      refine (rightNumber_any _ _ _).mono ?_; rintro e w' ⟨rfl, rfl⟩
      rw [hn]
      go_wp2
      go_ret
      exact ⟨rfl, hB1⟩
    · rw [Bool.true_and]
      cases he : x.s.data.toList.isEmpty
      · rw [Bool.false_and]
        have he2 := str_ne he
        go_enter Tryz.func11, Tryz.ntmps11
        go_wp2_with fail
        refine (rightNumber_any _ _ _).mono ?_; rintro e w' ⟨rfl, rfl⟩
        rw [hn]
        go_wp2
        go_ret
        exact ⟨rfl, hB1⟩
      · rw [Bool.true_and]
        have he2 := str_eq he
        go_enter Tryz.func11, Tryz.ntmps11
        go_wp2_with fail
        refine (rightNumber_any _ _ _).mono ?_; rintro e w' ⟨rfl, rfl⟩
        rw [hn]
        go_wp2
        go_ret
        exact ⟨rfl, hB1⟩

/-- All texts within are short enough for the model. -/
def Vl.fits (x : Vl) : Prop := x.s.size ≤ 140737488351232 ∧ ∀ y ∈ x.l, y.s.size ≤ 140737488351232

set_option maxRecDepth 100000 in
set_option maxHeartbeats 1000000 in
theorem wrong_any (ae : Addr) (x : Vl) (hs : x.s.size ≤ 140737488351232) (B : Nat) (w : World) (v : Value) (hB : B ≤ w.heap.size) (hE : Env ae w) (hr : Rep B w x v) :
    Calls Tryz.prog 38 #[v] w fun e w' => e = .returned (.bool (wrongIn x)) ∧ Below w.heap.size w w' := by
  obtain ⟨lv, rfl, hl⟩ := rep_of hr
  have hB1 := boxed w x.k x.n x.s lv
  unfold wrongIn
  cases hk : x.k == 5
  · rw [Bool.false_or]
    have h5 : x.k ≠ 5 := by simpa using hk
    have HR := Lib.hid (right_flat ae x hs h5 B _ _ (hE.below hB1) (hr.below hB1 hB))
    clear h5 hr hl hE
    cases hf : rightF x
    all_goals
      rw [hf] at HR
      clear hf
      go_enter Tryz.func38, Tryz.ntmps38
      go_wp2_with fail
      refine HR.out.mono ?_; rintro e w' ⟨rfl, hB2⟩
      go_wp2
      go_ret
      exact ⟨rfl, hB1.trans (hB2.mono hB1.size)⟩
  · rw [Bool.true_or]
    clear hl hr hE
    go_enter Tryz.func38, Tryz.ntmps38
    go_wp2
    go_ret
    exact ⟨rfl, hB1⟩

/-- Where the first wrong one stands; -1: none is. -/
def firstWrong (l : List Vl) (k : Nat) : Int := match l with | [] => -1 | x :: r => if wrongIn x then k else firstWrong r (k + 1)
theorem firstWrong_any : ∀ (l : List Vl) (k : Nat), decide (0 ≤ firstWrong l k) = l.any wrongIn
  | [], _ => by simp [firstWrong]
  | x :: r, k => by
    rw [firstWrong, List.any_cons]
    cases h : wrongIn x
    · simp only [Bool.false_eq_true, if_false, Bool.false_or]; exact firstWrong_any r (k + 1)
    · simp only [if_true, Bool.true_or]; simp
theorem firstWrong_at : ∀ (l : List Vl) (k j : Nat), j ≤ l.length → (∀ i x, i < j → l[i]? = some x → wrongIn x = false) → firstWrong l k = firstWrong (l.drop j) (k + j)
  | _, _, 0, _, _ => rfl
  | x :: r, k, j + 1, h, hx => by
    rw [firstWrong, hx 0 x (by omega) rfl]
    simp only [Bool.false_eq_true, if_false, List.drop_succ_cons]
    rw [firstWrong_at r (k + 1) j (by simpa using h) fun i y hi hy => hx (i + 1) y (by omega) (by simpa using hy), show k + 1 + j = k + (j + 1) from by omega]

set_option maxRecDepth 100000 in
set_option maxHeartbeats 1000000 in
theorem index_any (ae : Addr) (l : List Vl) (hs : ∀ y ∈ l, y.s.size ≤ 140737488351232) (B : Nat) (w : World) (lv : Value) (hB : B ≤ w.heap.size) (hE : Env ae w) (hr : RepL B w l lv) :
    Calls Tryz.prog 71 #[lv, .func (.func 38) #[] #[]] w fun e w' => e = .returned (.int .i64 (firstWrong l 0)) ∧ Below w.heap.size w w' := by
  obtain ⟨a1, c1, rfl, z1⟩ := hr.len
  unfold maxLen at z1
  have HL := Lib.hid (And.intro hs (And.intro hE hr))
  clear hr hs hE
  go_enter Tryz.func71, Tryz.ntmps71
  go_wp2
  go_loopw [5, 8] (fun i j wr => ∃ k : Nat, k ≤ l.length ∧ j = .int .i64 k ∧ Below w.heap.size w wr ∧ ∀ i x, i < k → l[i]? = some x → wrongIn x = false) (fun _ j _ => l.length - (intOf j).toNat)
  case atStart => exact ⟨0, by omega, rfl, Below.refl _ _, by omega⟩
  case round =>
    obtain ⟨k, hk, rfl, hBw, hz⟩ := hrel
    have HZ := Lib.hid hz; clear hz
    have hsz := hBw.size
    by_cases hlt : k < l.length
    · obtain ⟨x, hx⟩ : ∃ x, l[k]? = some x := ⟨_, List.getElem?_eq_getElem (by omega)⟩
      obtain ⟨b1, o1, d1, lw1, e1, hb1, ⟨p0, p1, p2, p3⟩, hl1⟩ := (HL.out.2.2.below hBw hB).at hx
      cases e1
      have HX := Lib.hid (wrong_any ae x (HL.out.1 x (List.mem_of_getElem? hx)) B wr _ (by omega) (HL.out.2.1.below hBw) (rep_in hl1))
      have i1 : (0 : Int) ≤ (k : Int) := by omega
      have i2 : (k : Int) < (l.length : Int) := by omega
      have HXX := Lib.hid hx
      have HF := Lib.hid (firstWrong_at l 0 k (by omega) HZ.out)
      clear hl1 hx
      cases hc : wrongIn x
      · have HC := Lib.hid hc
        rw [hc] at HX
        clear hc
        go_wp2_with (go_at_call 38; refine HX.out.mono ?_; rintro e w' ⟨rfl, hB⟩)
        go_roundw
        case rel =>
          refine ⟨k + 1, by omega, by go_num, hBw.trans (hB.mono hsz), fun i a hi ha => ?_⟩
          rcases Nat.lt_or_ge i k with h | h
          · exact HZ.out i a h ha
          · obtain rfl : i = k := by omega
            rw [HXX.out] at ha; cases ha
            exact HC.out
        case measure => simp [intOf]; omega
      · have HC := Lib.hid hc
        rw [hc] at HX
        clear hc
        go_wp2_with (go_at_call 38; refine HX.out.mono ?_; rintro e w' ⟨rfl, hB⟩)
        go_ret
        refine ⟨ret_int ?_, hBw.trans (hB.mono hsz)⟩
        rw [HF.out, List.drop_eq_getElem_cons hlt, firstWrong, (List.getElem?_eq_some_iff.1 HXX.out).2, HC.out]
        simp
    · have hkl : k = l.length := by omega
      have HF := Lib.hid (firstWrong_at l 0 k (by omega) HZ.out)
      subst hkl
      go_wp2
      go_ret
      refine ⟨ret_int ?_, hBw⟩
      rw [HF.out, List.drop_length, firstWrong]

set_option maxRecDepth 100000 in
theorem containsV_any (ae : Addr) (l : List Vl) (hs : ∀ y ∈ l, y.s.size ≤ 140737488351232) (B : Nat) (w : World) (lv : Value) (hB : B ≤ w.heap.size) (hE : Env ae w) (hr : RepL B w l lv) :
    Calls Tryz.prog 37 #[lv, .func (.func 38) #[] #[]] w fun e w' => e = .returned (.bool (l.any wrongIn)) ∧ Below w.heap.size w w' := by
  have HI := Lib.hid (index_any ae l hs B w lv hB hE hr)
  rw [← firstWrong_any l 0]
  clear hs hE hr
  go_enter Tryz.func37, Tryz.ntmps37
  go_wp2_with fail
  refine HI.out.mono ?_; rintro e w' ⟨rfl, hB2⟩
  go_wp2
  go_ret
  exact ⟨rfl, hB2⟩

set_option maxRecDepth 100000 in
set_option maxHeartbeats 1000000 in
theorem right_list (ae : Addr) (x : Vl) (hs : x.fits) (h5 : x.k = 5) (B : Nat) (w : World) (v : Value) (hB : B ≤ w.heap.size) (hE : Env ae w) (hr : Rep B w x v) :
    Calls Tryz.prog 11 #[v] w fun e w' => e = .returned (.bool (rightV x)) ∧ Below w.heap.size w w' := by
  obtain ⟨lv, rfl, hl⟩ := rep_of hr
  have k5 : (x.k == 5) = true := by simpa using h5
  have k2 : (x.k == 2) = false := by rw [h5]; rfl
  have hB1 := boxed w x.k x.n x.s lv
  have HI := Lib.hid (containsV_any ae x.l hs.2 B _ lv (by simp; omega) (hE.below hB1) (hl.below hB1 hB))
  obtain ⟨a1, c1, rfl, z1⟩ := hl.len
  have P := Lib.hid (Kit.box4_new w (.int .i64 x.k) (.int .i64 x.n) (.string x.s) (.slice a1 x.l.length c1) 30)
  unfold maxLen at z1
  have hC : rightC (x.l.length : Int) = decide (x.l.length ≤ 12) := by unfold rightC; rw [decide_eq_true (by omega), Bool.true_and]; congr 1; simp; omega
  unfold rightV
  rw [if_pos h5, ← hC]
  clear hl hr hE h5 hC hs
  cases hc : rightC (x.l.length : Int)
  · rw [Bool.false_and, Bool.false_and, Bool.false_and]
    clear HI
    go_enter Tryz.func11, Tryz.ntmps11
    go_wp2_with fail
    refine (rightCount_any _ _).mono ?_; rintro e w' ⟨rfl, rfl⟩
    rw [hc]
    go_wp2
    go_ret
    exact ⟨rfl, hB1⟩
  · rw [Bool.true_and]
    cases hn : x.n == 0
    · rw [Bool.false_and, Bool.false_and]
      clear HI
      go_enter Tryz.func11, Tryz.ntmps11
      go_wp2_with fail
      refine (rightCount_any _ _).mono ?_; rintro e w' ⟨rfl, rfl⟩
      rw [hc]
      go_wp2
      go_ret
      exact ⟨rfl, hB1⟩
    · rw [Bool.true_and]
      cases he : x.s.data.toList.isEmpty
      · rw [Bool.false_and]
        have he2 := str_ne he
        clear HI
        go_enter Tryz.func11, Tryz.ntmps11
        go_wp2_with fail
        refine (rightCount_any _ _).mono ?_; rintro e w' ⟨rfl, rfl⟩
        rw [hc]
        go_wp2
        go_ret
        exact ⟨rfl, hB1⟩
      · rw [Bool.true_and]
        have he2 := str_eq he
        go_enter Tryz.func11, Tryz.ntmps11
        go_wp2_with fail
        refine (rightCount_any _ _).mono ?_; rintro e w' ⟨rfl, rfl⟩
        rw [hc]
        go_wp2_with fail
        refine HI.out.mono ?_; rintro e w' ⟨rfl, hB2⟩
        go_wp2
        go_ret
        exact ⟨rfl, hB1.trans (hB2.mono hB1.size)⟩

/-- Right, of any value. -/
theorem right_any (ae : Addr) (x : Vl) (hs : x.fits) (B : Nat) (w : World) (v : Value) (hB : B ≤ w.heap.size) (hE : Env ae w) (hr : Rep B w x v) :
    Calls Tryz.prog 11 #[v] w fun e w' => e = .returned (.bool (rightV x)) ∧ Below w.heap.size w w' := by
  by_cases h5 : x.k = 5
  · exact right_list ae x hs h5 B w v hB hE hr
  · rw [show rightV x = rightF x from by unfold rightV; rw [if_neg h5]]
    exact right_flat ae x hs.1 h5 B w v hE hr
end Go.Proofs.YtbmhlpojgiminaaGreatDoor.Val
