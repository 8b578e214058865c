/- Layer 4: classes, as they lie in memory; right names, right fields. -/
import Derived.Test.YtmobnlofbopbeaaDoorValFits
import Derived.Test.YtmobnlofbopbeaaDoorKit8
import Derived.Test.YtmobnlofbopbeaaDoorValBs
namespace Go.Proofs.YtmobnlofbopbeaaDoor.Cls
open Go.RowKit
open Kit (ret_int ret_bool Moved)
open Val (Env flat bs Vl Rep RepL)

attribute [local go_sem] Oper.semAt_some

/-- A field. -/
structure Fd where
  nm : ByteArray
  k : Int
  o : Int
  ix : Bool
deriving DecidableEq
abbrev cellsFd (f : Fd) : List Value := [.string f.nm, .int .i64 f.k, .int .i64 f.o, .bool f.ix]
abbrev aggFd (f : Fd) : Value := .agg #[.string f.nm, .int .i64 f.k, .int .i64 f.o, .bool f.ix]
theorem cellsFds_len : ∀ l : List Fd, (l.flatMap cellsFd).length = l.length * 4
  | [] => rfl
  | x :: r => by rw [List.flatMap_cons, List.length_append, cellsFds_len r, List.length_cons]; simp; omega
/-- lv is the list of fields l, below block B. -/
def FdL (B : Nat) (w : World) (l : List Fd) (lv : Value) : Prop :=
  (l = [] ∧ ∃ a c, lv = .slice a 0 c) ∨ ∃ b o c, b < B ∧ lv = .slice (some ⟨b, o, none⟩) l.length c ∧ l.length ≤ maxLen ∧ w.rangeAt b o (l.flatMap cellsFd)
theorem FdL.len {B : Nat} {w : World} {l : List Fd} {lv : Value} (h : FdL B w l lv) : ∃ a c, lv = .slice a l.length c ∧ l.length ≤ maxLen := by
  rcases h with ⟨rfl, a, c, h⟩ | ⟨b, o, c, _, h, h2, _⟩
  · exact ⟨a, c, h, Nat.zero_le _⟩
  · exact ⟨_, c, h, h2⟩
theorem FdL.below {B n : Nat} {w w' : World} {l : List Fd} {lv : Value} (h : FdL B w l lv) (hb : Below n w w') (hB : B ≤ n) : FdL B w' l lv := by
  rcases h with h | ⟨b, o, c, h0, h1, h2, h3⟩
  · exact .inl h
  · exact .inr ⟨b, o, c, h0, h1, h2, Val.rangeAt_heap h3 (hb.block b (by omega))⟩
theorem FdL.mono {B B' : Nat} {w : World} {l : List Fd} {lv : Value} (h : FdL B w l lv) (hB : B ≤ B') : FdL B' w l lv := by
  rcases h with h | ⟨b, o, c, h0, h1, h2, h3⟩
  · exact .inl h
  · exact .inr ⟨b, o, c, by omega, h1, h2, h3⟩
theorem cells_at : ∀ (l : List Fd) (i : Nat) (x : Fd), l[i]? = some x → ∀ j u, (cellsFd x)[j]? = some u → (l.flatMap cellsFd)[i * 4 + j]? = some u
  | [], _, _, h, _, _, _ => by simp at h
  | y :: r, 0, x, h, j, u, hu => by
    simp only [List.getElem?_cons_zero, Option.some.injEq] at h
    subst h
    have hj : j < 4 := (List.getElem?_eq_some_iff.1 hu).1
    rw [List.flatMap_cons, List.getElem?_append_left (by simp; omega)]
    simpa using hu
  | y :: r, i + 1, x, h, j, u, hu => by
    rw [List.flatMap_cons, List.getElem?_append_right (by simp; omega), show (i + 1) * 4 + j - (cellsFd y).length = i * 4 + j from by simp; omega]
    exact cells_at r i x (by simpa using h) j u hu
theorem FdL.at {B : Nat} {w : World} {l : List Fd} {lv : Value} (h : FdL B w l lv) {i : Nat} {x : Fd} (hx : l[i]? = some x) :
    ∃ b o c, lv = .slice (some ⟨b, o, none⟩) l.length c ∧ b < B ∧ w.cell? ⟨b, o + i * 4, none⟩ = some (.string x.nm) ∧ w.cell? ⟨b, o + i * 4 + 1, none⟩ = some (.int .i64 x.k) ∧ w.cell? ⟨b, o + i * 4 + 2, none⟩ = some (.int .i64 x.o) ∧ w.cell? ⟨b, o + i * 4 + 3, none⟩ = some (.bool x.ix) := by
  rcases h with ⟨rfl, _⟩ | ⟨b, o, c, h0, h1, h2, h3⟩
  · simp at hx
  · have hc := cells_at l i x hx
    have g := fun j u hu => h3 (i * 4 + j) u (hc j u hu)
    simp only [← Nat.add_assoc] at g
    exact ⟨b, o, c, h1, h0, g 0 _ rfl, g 1 _ rfl, g 2 _ rfl, g 3 _ rfl⟩

/-- A class. -/
structure Cl where
  nm : ByteArray
  l : List Fd
def Cl.fits (c : Cl) : Prop := c.nm.size ≤ 140737488351232 ∧ ∀ f ∈ c.l, f.nm.size ≤ 140737488351232

def letter (x : Int) : Bool := decide (97 ≤ x) && decide (x ≤ 122)
/-- Is a sign one that no name has? -/
def nin (c : Nat) : Bool := !letter (c : Int) && (!(c == 95) && (decide (c < 48) || decide (57 < c)))

theorem isLetter_any (x : Int) (w : World) : Calls Tryd.prog 52 #[.int .i32 x] w fun e w' => e = .returned (.bool (letter x)) ∧ w = w' := by
  unfold letter
  by_cases a : 97 ≤ x
  · rw [decide_eq_true a, Bool.true_and]
    go_enter Tryd.func52, Tryd.ntmps52
    go_wp2
    go_ret
    exact ⟨rfl, rfl⟩
  · rw [decide_eq_false a, Bool.false_and]
    go_enter Tryd.func52, Tryd.ntmps52
    go_wp2
    go_ret
    exact ⟨rfl, rfl⟩

theorem notInName_any (x : Nat) (hx : x ≤ 1114111) (w : World) : Calls Tryd.prog 54 #[.int .i32 (x : Int)] w fun e w' => e = .returned (.bool (nin x)) ∧ w = w' := by
  have hd : (letter (x : Int) = true ∧ nin x = false) ∨ (letter (x : Int) = false ∧ ((x : Int) != 95) = false ∧ nin x = false) ∨ (letter (x : Int) = false ∧ ((x : Int) != 95) = true ∧ (x : Int) < 48 ∧ nin x = true) ∨
      (letter (x : Int) = false ∧ ((x : Int) != 95) = true ∧ ¬ (x : Int) < 48 ∧ (57 : Int) < (x : Int) ∧ nin x = true) ∨ (letter (x : Int) = false ∧ ((x : Int) != 95) = true ∧ ¬ (x : Int) < 48 ∧ ¬ (57 : Int) < (x : Int) ∧ nin x = false) := by
    unfold nin
    cases h : letter (x : Int)
    · right
      by_cases h2 : x = 95
      · left; subst h2; exact ⟨rfl, by simp, by simp⟩
      · right
        have h5 : ((x : Int) != 95) = true := by simp; omega
        have h8 : (x == 95) = false := by simpa using h2
        rw [h8, h5]
        by_cases h3 : x < 48
        · left; exact ⟨rfl, rfl, by omega, by rw [decide_eq_true h3]; rfl⟩
        · right
          by_cases h4 : 57 < x
          · left; exact ⟨rfl, rfl, by omega, by omega, by rw [decide_eq_true h4, decide_eq_false h3]; rfl⟩
          · right; exact ⟨rfl, rfl, by omega, by omega, by rw [decide_eq_false h4, decide_eq_false h3]; rfl⟩
    · left; exact ⟨rfl, rfl⟩
  have hl := fun W => isLetter_any (x : Int) W
  rcases hd with ⟨h, hn⟩ | ⟨h, h5, hn⟩ | ⟨h, h5, h6, hn⟩ | ⟨h, h5, h6, h7, hn⟩ | ⟨h, h5, h6, h7, hn⟩
  all_goals
    rw [h] at hl
    rw [hn]
    have HL := Lib.hid hl
    clear hl h hn
    go_enter Tryd.func54, Tryd.ntmps54
    go_wp2_with fail
    refine (HL.out _).mono ?_; rintro e w' ⟨rfl, rfl⟩
    go_wp2
    go_ret
    exact ⟨by first | rfl | simp [*], rfl⟩

theorem nin_grows (w : World) : PredGrows Tryd.prog 54 #[] nin w := fun W x hx _ =>
  (notInName_any x hx W).mono fun _ _ ⟨he, hw⟩ => ⟨he, hw ▸ Below.refl _ _⟩
/-- Has a text a sign that no name has? -/
def hasNin (s : ByteArray) : Bool := decide (0 ≤ Lib.idxFunc nin true s)
theorem containsN_any (s : ByteArray) (w : World) :
    Calls Tryd.prog 53 #[.string s, .func (.func 54) #[] #[]] w fun e w' => e = .returned (.bool (hasNin s)) ∧ Below w.heap.size w w' :=
  Tryd.strings_ContainsFunc_grows 54 #[] (fun args w => by kernel_rfl) nin s w (nin_grows w)

/-- Is a text a right name? -/
def rightNm (s : ByteArray) : Bool := !s.data.toList.isEmpty && (decide (s.size ≤ 20) && (letter ((s.data.toList.head?.getD 0).toNat : Int) && !hasNin s))

set_option maxRecDepth 100000 in
set_option maxHeartbeats 1000000 in
theorem rightName_any (s : ByteArray) (w : World) : Calls Tryd.prog 33 #[.string s] w fun e w' => e = .returned (.bool (rightNm s)) ∧ Below w.heap.size w w' := by
  unfold rightNm
  cases he : s.data.toList.isEmpty
  · have he2 := Val.str_ne he
    rw [show (!false) = true from rfl, Bool.true_and]
    by_cases h : s.size ≤ 20
    · rw [decide_eq_true h, Bool.true_and]
      have h2 : (s.size : Int) ≤ 20 := by omega
      have h0 : 0 < s.size := by rw [← Val.data_len]; exact List.length_pos_iff.2 (fun h => by rw [h] at he; cases he)
      have h0i : (0 : Int) < (s.size : Int) := by omega
      have hb : s[0] = s.data.toList.head?.getD 0 := by
        show s.data[0] = _
        rw [← Array.getElem_toList, List.head?_eq_getElem?, List.getElem?_eq_getElem]
        rfl
      have hw : wrap32 ((s[0]).toNat : Int) = ((s.data.toList.head?.getD 0).toNat : Int) := by
        rw [hb]
        have := (s.data.toList.head?.getD 0).toNat_lt
        exact IntWalk.wrap32_in _ (by omega)
      have HL := Lib.hid (fun W => isLetter_any ((s.data.toList.head?.getD 0).toNat : Int) W)
      clear he h hb
      cases hl : letter ((s.data.toList.head?.getD 0).toNat : Int)
      all_goals
        rw [hl] at HL
        clear hl
        go_enter Tryd.func33, Tryd.ntmps33
        go_wp2_with fail
        refine (HL.out _).mono ?_; rintro e w' ⟨rfl, rfl⟩
        go_wp2_with fail
      · go_ret
        exact ⟨rfl, Below.refl _ _⟩
      · refine (containsN_any s _).mono ?_; rintro e w' ⟨rfl, hB⟩
        go_wp2
        go_ret
        exact ⟨rfl, hB⟩
    · rw [decide_eq_false h, Bool.false_and]
      have h2 : ¬ (s.size : Int) ≤ 20 := by omega
      clear he h
      go_enter Tryd.func33, Tryd.ntmps33
      go_wp2
      go_ret
      exact ⟨rfl, Below.refl _ _⟩
  · have he2 := Val.str_eq he
    rw [show (!true) = false from rfl, Bool.false_and]
    clear he
    go_enter Tryd.func33, Tryd.ntmps33
    go_wp2
    go_ret
    exact ⟨rfl, Below.refl _ _⟩

def indexK (k : Int) : Bool := k == 1 || (k == 2 || k == 3)
theorem isIndexable_any (k : Int) (w : World) : Calls Tryd.prog 55 #[.int .i64 k] w fun e w' => e = .returned (.bool (indexK k)) ∧ w = w' := by
  unfold indexK
  cases a : k == 1
  · rw [Bool.false_or]
    cases b : k == 2
    · rw [Bool.false_or]
      go_enter Tryd.func55, Tryd.ntmps55
      go_wp2
      go_ret
      exact ⟨rfl, rfl⟩
    · rw [Bool.true_or]
      go_enter Tryd.func55, Tryd.ntmps55
      go_wp2
      go_ret
      exact ⟨rfl, rfl⟩
  · rw [Bool.true_or]
    go_enter Tryd.func55, Tryd.ntmps55
    go_wp2
    go_ret
    exact ⟨rfl, rfl⟩

theorem zero_right : Val.rightV (flat 0 0 ⟨#[]⟩) = true ∧ Val.rightV (flat 1 0 ⟨#[]⟩) = true ∧ Val.rightV (flat 2 0 ⟨#[]⟩) = true ∧ Val.rightV (flat 5 0 ⟨#[]⟩) = true := ⟨by kernel_rfl, by kernel_rfl, by kernel_rfl, by kernel_rfl⟩
/-- A type is right just if its least value fits it. -/
theorem fits_zero (K O : Int) : Val.fitsV (Val.zeroV K O) K O = Val.rightTy K O := by
  unfold Val.fitsV
  cases h : Val.rightTy K O
  · rfl
  · rw [Bool.true_and]
    have hk : K = 1 ∨ K = 2 ∨ K = 3 ∨ K = 4 ∨ K = 5 := by
      unfold Val.rightTy Val.inK at h
      split at h
      · omega
      · simp at h; omega
    unfold Val.zeroV
    rw [h]
    rcases hk with rfl | rfl | rfl | rfl | rfl
    · rw [if_neg (by decide), zero_right.2.1]; rfl
    · rw [if_neg (by decide), zero_right.2.2.1]; rfl
    · rw [if_pos (by decide), zero_right.1]; rfl
    · rw [if_pos (by decide), zero_right.1]; rfl
    · rw [if_neg (by decide), zero_right.2.2.2]; rfl
theorem zero_fits (K O : Int) : (Val.zeroV K O).fits := by
  unfold Val.zeroV
  split
  · exact ⟨by show (ByteArray.mk #[]).size ≤ _; decide, fun y hy => by cases hy⟩
  · exact ⟨by show (ByteArray.mk #[]).size ≤ _; decide, fun y hy => by cases hy⟩
theorem zero_rep {B : Nat} {w : World} (K O : Int) : Rep B w (Val.zeroV K O) (Val.flatV (Val.zeroV K O).k 0 ⟨#[]⟩) := by
  unfold Val.zeroV
  split <;> exact Val.rep_flat

end Go.Proofs.YtmobnlofbopbeaaDoor.Cls
