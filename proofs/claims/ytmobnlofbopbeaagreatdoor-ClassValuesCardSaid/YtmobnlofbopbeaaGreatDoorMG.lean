/- Layer 4: classes, as they lie in memory; right names, right fields. -/
import Derived.Test.YtmobnlofbopbeaaGreatDoorValFits
import Derived.Test.YtmobnlofbopbeaaGreatDoorKit8
import Derived.Test.YtmobnlofbopbeaaGreatDoorValBs
import Derived.Deep.RegionHeld3
import Derived.Laws.StructEq
namespace Go.Proofs.YtmobnlofbopbeaaGreatDoor.Cls
open Go.RowKit
open Kit (ret_int ret_bool Moved)
open Val (Env flat bs Vl Rep RepL)

attribute [local go_sem] Oper.semAt_some

/-- A field. -/
structure Fd where
  nm : ByteArray
  k : Int
  o : Int
  ix : Bool
deriving DecidableEq
abbrev cellsFd (f : Fd) : List Value := [.string f.nm, .int .i64 f.k, .int .i64 f.o, .bool f.ix]
abbrev aggFd (f : Fd) : Value := .agg #[.string f.nm, .int .i64 f.k, .int .i64 f.o, .bool f.ix]
theorem cellsFds_len : ∀ l : List Fd, (l.flatMap cellsFd).length = l.length * 4
  | [] => rfl
  | x :: r => by rw [List.flatMap_cons, List.length_append, cellsFds_len r, List.length_cons]; simp; omega
/-- lv is the list of fields l, below block B. -/
def FdL (B : Nat) (w : World) (l : List Fd) (lv : Value) : Prop :=
  (l = [] ∧ ∃ a c, lv = .slice a 0 c) ∨ ∃ b o c, b < B ∧ lv = .slice (some ⟨b, o, none⟩) l.length c ∧ l.length ≤ maxLen ∧ w.rangeAt b o (l.flatMap cellsFd)
theorem FdL.len {B : Nat} {w : World} {l : List Fd} {lv : Value} (h : FdL B w l lv) : ∃ a c, lv = .slice a l.length c ∧ l.length ≤ maxLen := by
  rcases h with ⟨rfl, a, c, h⟩ | ⟨b, o, c, _, h, h2, _⟩
  · exact ⟨a, c, h, Nat.zero_le _⟩
  · exact ⟨_, c, h, h2⟩
theorem FdL.below {B n : Nat} {w w' : World} {l : List Fd} {lv : Value} (h : FdL B w l lv) (hb : Below n w w') (hB : B ≤ n) : FdL B w' l lv := by
  rcases h with h | ⟨b, o, c, h0, h1, h2, h3⟩
  · exact .inl h
  · exact .inr ⟨b, o, c, h0, h1, h2, Val.rangeAt_heap h3 (hb.block b (by omega))⟩
theorem FdL.mono {B B' : Nat} {w : World} {l : List Fd} {lv : Value} (h : FdL B w l lv) (hB : B ≤ B') : FdL B' w l lv := by
  rcases h with h | ⟨b, o, c, h0, h1, h2, h3⟩
  · exact .inl h
  · exact .inr ⟨b, o, c, by omega, h1, h2, h3⟩
theorem cells_at : ∀ (l : List Fd) (i : Nat) (x : Fd), l[i]? = some x → ∀ j u, (cellsFd x)[j]? = some u → (l.flatMap cellsFd)[i * 4 + j]? = some u
  | [], _, _, h, _, _, _ => by simp at h
  | y :: r, 0, x, h, j, u, hu => by
    simp only [List.getElem?_cons_zero, Option.some.injEq] at h
    subst h
    have hj : j < 4 := (List.getElem?_eq_some_iff.1 hu).1
    rw [List.flatMap_cons, List.getElem?_append_left (by simp; omega)]
    simpa using hu
  | y :: r, i + 1, x, h, j, u, hu => by
    rw [List.flatMap_cons, List.getElem?_append_right (by simp; omega), show (i + 1) * 4 + j - (cellsFd y).length = i * 4 + j from by simp; omega]
    exact cells_at r i x (by simpa using h) j u hu
theorem FdL.at {B : Nat} {w : World} {l : List Fd} {lv : Value} (h : FdL B w l lv) {i : Nat} {x : Fd} (hx : l[i]? = some x) :
    ∃ b o c, lv = .slice (some ⟨b, o, none⟩) l.length c ∧ b < B ∧ w.cell? ⟨b, o + i * 4, none⟩ = some (.string x.nm) ∧ w.cell? ⟨b, o + i * 4 + 1, none⟩ = some (.int .i64 x.k) ∧ w.cell? ⟨b, o + i * 4 + 2, none⟩ = some (.int .i64 x.o) ∧ w.cell? ⟨b, o + i * 4 + 3, none⟩ = some (.bool x.ix) := by
  rcases h with ⟨rfl, _⟩ | ⟨b, o, c, h0, h1, h2, h3⟩
  · simp at hx
  · have hc := cells_at l i x hx
    have g := fun j u hu => h3 (i * 4 + j) u (hc j u hu)
    simp only [← Nat.add_assoc] at g
    exact ⟨b, o, c, h1, h0, g 0 _ rfl, g 1 _ rfl, g 2 _ rfl, g 3 _ rfl⟩

/-- A class. -/
structure Cl where
  nm : ByteArray
  l : List Fd
def Cl.fits (c : Cl) : Prop := c.nm.size ≤ 140737488351232 ∧ ∀ f ∈ c.l, f.nm.size ≤ 140737488351232

def letter (x : Int) : Bool := decide (97 ≤ x) && decide (x ≤ 122)
/-- Is a sign one that no name has? -/
def nin (c : Nat) : Bool := !letter (c : Int) && (!(c == 95) && (decide (c < 48) || decide (57 < c)))

theorem isLetter_any (x : Int) (w : World) : Calls Tryz.prog 141 #[.int .i32 x] w fun e w' => e = .returned (.bool (letter x)) ∧ w = w' := by
  unfold letter
  by_cases a : 97 ≤ x
  · rw [decide_eq_true a, Bool.true_and]
    go_enter Tryz.func141, Tryz.ntmps141
    go_wp2
    go_ret
    exact ⟨rfl, rfl⟩
  · rw [decide_eq_false a, Bool.false_and]
    go_enter Tryz.func141, Tryz.ntmps141
    go_wp2
    go_ret
    exact ⟨rfl, rfl⟩

theorem notInName_any (x : Nat) (hx : x ≤ 1114111) (w : World) : Calls Tryz.prog 142 #[.int .i32 (x : Int)] w fun e w' => e = .returned (.bool (nin x)) ∧ w = w' := by
  have hd : (letter (x : Int) = true ∧ nin x = false) ∨ (letter (x : Int) = false ∧ ((x : Int) != 95) = false ∧ nin x = false) ∨ (letter (x : Int) = false ∧ ((x : Int) != 95) = true ∧ (x : Int) < 48 ∧ nin x = true) ∨
      (letter (x : Int) = false ∧ ((x : Int) != 95) = true ∧ ¬ (x : Int) < 48 ∧ (57 : Int) < (x : Int) ∧ nin x = true) ∨ (letter (x : Int) = false ∧ ((x : Int) != 95) = true ∧ ¬ (x : Int) < 48 ∧ ¬ (57 : Int) < (x : Int) ∧ nin x = false) := by
    unfold nin
    cases h : letter (x : Int)
    · right
      by_cases h2 : x = 95
      · left; subst h2; exact ⟨rfl, by simp, by simp⟩
      · right
        have h5 : ((x : Int) != 95) = true := by simp; omega
        have h8 : (x == 95) = false := by simpa using h2
        rw [h8, h5]
        by_cases h3 : x < 48
        · left; exact ⟨rfl, rfl, by omega, by rw [decide_eq_true h3]; rfl⟩
        · right
          by_cases h4 : 57 < x
          · left; exact ⟨rfl, rfl, by omega, by omega, by rw [decide_eq_true h4, decide_eq_false h3]; rfl⟩
          · right; exact ⟨rfl, rfl, by omega, by omega, by rw [decide_eq_false h4, decide_eq_false h3]; rfl⟩
    · left; exact ⟨rfl, rfl⟩
  have hl := fun W => isLetter_any (x : Int) W
  rcases hd with ⟨h, hn⟩ | ⟨h, h5, hn⟩ | ⟨h, h5, h6, hn⟩ | ⟨h, h5, h6, h7, hn⟩ | ⟨h, h5, h6, h7, hn⟩
  all_goals
    rw [h] at hl
    rw [hn]
    have HL := Lib.hid hl
    clear hl h hn
    go_enter Tryz.func142, Tryz.ntmps142
    go_wp2_with fail
    refine (HL.out _).mono ?_; rintro e w' ⟨rfl, rfl⟩
    go_wp2
    go_ret
    exact ⟨by first | rfl | simp [*], rfl⟩

theorem nin_grows (w : World) : PredGrows Tryz.prog 142 #[] nin w := fun W x hx _ =>
  (notInName_any x hx W).mono fun _ _ ⟨he, hw⟩ => ⟨he, hw ▸ Below.refl _ _⟩
/-- Has a text a sign that no name has? -/
def hasNin (s : ByteArray) : Bool := decide (0 ≤ Lib.idxFunc nin true s)
theorem containsN_any (s : ByteArray) (w : World) :
    Calls Tryz.prog 86 #[.string s, .func (.func 142) #[] #[]] w fun e w' => e = .returned (.bool (hasNin s)) ∧ Below w.heap.size w w' :=
  Tryz.strings_ContainsFunc_grows 142 #[] (fun args w => by kernel_rfl) nin s w (nin_grows w)

/-- Is a text a right name? -/
def rightNm (s : ByteArray) : Bool := !s.data.toList.isEmpty && (decide (s.size ≤ 20) && (letter ((s.data.toList.head?.getD 0).toNat : Int) && !hasNin s))

set_option maxRecDepth 100000 in
set_option maxHeartbeats 1000000 in
theorem rightName_any (s : ByteArray) (w : World) : Calls Tryz.prog 119 #[.string s] w fun e w' => e = .returned (.bool (rightNm s)) ∧ Below w.heap.size w w' := by
  unfold rightNm
  cases he : s.data.toList.isEmpty
  · have he2 := Val.str_ne he
    rw [show (!false) = true from rfl, Bool.true_and]
    by_cases h : s.size ≤ 20
    · rw [decide_eq_true h, Bool.true_and]
      have h2 : (s.size : Int) ≤ 20 := by omega
      have h0 : 0 < s.size := by rw [← Val.data_len]; exact List.length_pos_iff.2 (fun h => by rw [h] at he; cases he)
      have h0i : (0 : Int) < (s.size : Int) := by omega
      have hb : s[0] = s.data.toList.head?.getD 0 := by
        show s.data[0] = _
        rw [← Array.getElem_toList, List.head?_eq_getElem?, List.getElem?_eq_getElem]
        rfl
      have hw : wrap32 ((s[0]).toNat : Int) = ((s.data.toList.head?.getD 0).toNat : Int) := by
        rw [hb]
        have := (s.data.toList.head?.getD 0).toNat_lt
        exact IntWalk.wrap32_in _ (by omega)
      have HL := Lib.hid (fun W => isLetter_any ((s.data.toList.head?.getD 0).toNat : Int) W)
      clear he h hb
      cases hl : letter ((s.data.toList.head?.getD 0).toNat : Int)
      all_goals
        rw [hl] at HL
        clear hl
        go_enter Tryz.func119, Tryz.ntmps119
        go_wp2_with fail
        refine (HL.out _).mono ?_; rintro e w' ⟨rfl, rfl⟩
        go_wp2_with fail
      · go_ret
        exact ⟨rfl, Below.refl _ _⟩
      · refine (containsN_any s _).mono ?_; rintro e w' ⟨rfl, hB⟩
        go_wp2
        go_ret
        exact ⟨rfl, hB⟩
    · rw [decide_eq_false h, Bool.false_and]
      have h2 : ¬ (s.size : Int) ≤ 20 := by omega
      clear he h
      go_enter Tryz.func119, Tryz.ntmps119
      go_wp2
      go_ret
      exact ⟨rfl, Below.refl _ _⟩
  · have he2 := Val.str_eq he
    rw [show (!true) = false from rfl, Bool.false_and]
    clear he
    go_enter Tryz.func119, Tryz.ntmps119
    go_wp2
    go_ret
    exact ⟨rfl, Below.refl _ _⟩

def indexK (k : Int) : Bool := k == 1 || (k == 2 || k == 3)
theorem isIndexable_any (k : Int) (w : World) : Calls Tryz.prog 143 #[.int .i64 k] w fun e w' => e = .returned (.bool (indexK k)) ∧ w = w' := by
  unfold indexK
  cases a : k == 1
  · rw [Bool.false_or]
    cases b : k == 2
    · rw [Bool.false_or]
      go_enter Tryz.func143, Tryz.ntmps143
      go_wp2
      go_ret
      exact ⟨rfl, rfl⟩
    · rw [Bool.true_or]
      go_enter Tryz.func143, Tryz.ntmps143
      go_wp2
      go_ret
      exact ⟨rfl, rfl⟩
  · rw [Bool.true_or]
    go_enter Tryz.func143, Tryz.ntmps143
    go_wp2
    go_ret
    exact ⟨rfl, rfl⟩

theorem zero_right : Val.rightV (flat 0 0 ⟨#[]⟩) = true ∧ Val.rightV (flat 1 0 ⟨#[]⟩) = true ∧ Val.rightV (flat 2 0 ⟨#[]⟩) = true ∧ Val.rightV (flat 5 0 ⟨#[]⟩) = true := ⟨by kernel_rfl, by kernel_rfl, by kernel_rfl, by kernel_rfl⟩
/-- A type is right just if its least value fits it. -/
theorem fits_zero (K O : Int) : Val.fitsV (Val.zeroV K O) K O = Val.rightTy K O := by
  unfold Val.fitsV
  cases h : Val.rightTy K O
  · rfl
  · rw [Bool.true_and]
    have hk : K = 1 ∨ K = 2 ∨ K = 3 ∨ K = 4 ∨ K = 5 := by
      unfold Val.rightTy Val.inK at h
      split at h
      · omega
      · simp at h; omega
    unfold Val.zeroV
    rw [h]
    rcases hk with rfl | rfl | rfl | rfl | rfl
    · rw [if_neg (by decide), zero_right.2.1]; rfl
    · rw [if_neg (by decide), zero_right.2.2.1]; rfl
    · rw [if_pos (by decide), zero_right.1]; rfl
    · rw [if_pos (by decide), zero_right.1]; rfl
    · rw [if_neg (by decide), zero_right.2.2.2]; rfl
theorem zero_fits (K O : Int) : (Val.zeroV K O).fits := by
  unfold Val.zeroV
  split
  · exact ⟨by show (ByteArray.mk #[]).size ≤ _; decide, fun y hy => by cases hy⟩
  · exact ⟨by show (ByteArray.mk #[]).size ≤ _; decide, fun y hy => by cases hy⟩
theorem zero_rep {B : Nat} {w : World} (K O : Int) : Rep B w (Val.zeroV K O) (Val.flatV (Val.zeroV K O).k 0 ⟨#[]⟩) := by
  unfold Val.zeroV
  split <;> exact Val.rep_flat

end Go.Proofs.YtmobnlofbopbeaaGreatDoor.Cls
/- Layer 4: RightType, right fields, where a field stands. -/
namespace Go.Proofs.YtmobnlofbopbeaaGreatDoor.Cls
open Go.RowKit
open Kit (ret_int ret_bool Moved)
open Val (Env flat bs Vl Rep RepL)

attribute [local go_sem] Oper.semAt_some

set_option maxRecDepth 100000 in
theorem RightType_any (ae : Addr) (K O : Int) (w : World) (hE : Env ae w) : Calls Tryz.prog 70 #[.agg #[.int .i64 K, .int .i64 O]] w fun e w' => e = .returned (.bool (Val.rightTy K O)) ∧ Below w.heap.size w w' := by
  have hb := Kit.below_alloc w (.cells #[.int .i64 K, .int .i64 O] 26)
  have c1 := Kit.cell_new w #[.int .i64 K, .int .i64 O] 26 0 rfl
  have c2 := Kit.cell_new w #[.int .i64 K, .int .i64 O] 26 1 rfl
  have hE1 := hE.below (hb.trans ((Below.refl _ _).drew.mono hb.size))
  have HF := Lib.hid (fun (w2 : World) (h : Below (w.alloc (.cells #[.int .i64 K, .int .i64 O] 26)).drew.heap.size (w.alloc (.cells #[.int .i64 K, .int .i64 O] 26)).drew w2) => fits_zero K O ▸ Val.fits_any ae (Val.zeroV K O) (zero_fits K O) K O w2.heap.size w2 _ (Nat.le_refl _) (hE1.below h) (zero_rep K O))
  clear hE hE1
  go_enter Tryz.func70, Tryz.ntmps70
  go_wp2_with fail
  have hB := Lib.hid hb
  clear hb
  generalize w.alloc (.cells #[.int .i64 K, .int .i64 O] 26) = W at *
  go_region_held3 (fun w' => w'.cell? ⟨w.heap.size, 0, none⟩ = some (.int .i64 K) ∧ w'.cell? ⟨w.heap.size, 1, none⟩ = some (.int .i64 O))
    (first
      | exact ⟨c1, c2⟩
      | exact ⟨(hB2.cell (p := ⟨w.heap.size, 0, none⟩) (Kit.lt_of_cell c1)).trans c1, (hB2.cell (p := ⟨w.heap.size, 1, none⟩) (Kit.lt_of_cell c2)).trans c2⟩
      | exact ⟨(hB3.cell (p := ⟨w.heap.size, 0, none⟩) (Kit.lt_of_cell ((hB2.cell (p := ⟨w.heap.size, 0, none⟩) (Kit.lt_of_cell c1)).trans c1))).trans ((hB2.cell (p := ⟨w.heap.size, 0, none⟩) (Kit.lt_of_cell c1)).trans c1), (hB3.cell (p := ⟨w.heap.size, 1, none⟩) (Kit.lt_of_cell ((hB2.cell (p := ⟨w.heap.size, 1, none⟩) (Kit.lt_of_cell c2)).trans c2))).trans ((hB2.cell (p := ⟨w.heap.size, 1, none⟩) (Kit.lt_of_cell c2)).trans c2)⟩)
    (first
      | (go_at_call 28; refine (Val.zero_any K O _).mono ?_; rintro e w2 ⟨rfl, hB2⟩)
      | (go_at_call 26; refine (HF.out _ hB2).mono ?_; rintro e w3 ⟨rfl, hB3⟩))
  go_wp2
  go_ret
  exact ⟨rfl, hB.out.drew.trans ((hB2.mono hB.out.size).trans (hB3.mono (Nat.le_trans hB.out.size hB2.size)))⟩
end Go.Proofs.YtmobnlofbopbeaaGreatDoor.Cls
/- Layer 4: where a field stands; right fields; right classes. -/
namespace Go.Proofs.YtmobnlofbopbeaaGreatDoor.Cls
open Go.RowKit
open Kit (ret_int ret_bool Moved)
open Val (Env flat bs Vl Rep RepL)

attribute [local go_sem] Oper.semAt_some

/-- Where the first stands that p holds of; -1: none does. -/
def firstOf {α : Type} (p : α → Bool) : List α → Nat → Int
  | [], _ => -1
  | x :: r, k => if p x then k else firstOf p r (k + 1)
theorem firstOf_at {α : Type} (p : α → Bool) : ∀ (l : List α) (k j : Nat), j ≤ l.length → (∀ i x, i < j → l[i]? = some x → p x = false) → firstOf p l k = firstOf p (l.drop j) (k + j)
  | _, _, 0, _, _ => rfl
  | [], _, j + 1, h, _ => by simp at h
  | x :: r, k, j + 1, h, hx => by
    rw [firstOf, hx 0 x (by omega) rfl]
    simp only [Bool.false_eq_true, if_false, List.drop_succ_cons]
    rw [firstOf_at p r (k + 1) j (by simpa using h) fun i y hi hy => hx (i + 1) y (by omega) (by simpa using hy), show k + 1 + j = k + (j + 1) from by omega]
theorem firstOf_range {α : Type} (p : α → Bool) : ∀ (l : List α) (k : Nat), firstOf p l k = -1 ∨ ((k : Int) ≤ firstOf p l k ∧ firstOf p l k < (k : Int) + (l.length : Int))
  | [], _ => .inl rfl
  | x :: r, k => by
    rw [firstOf]
    split
    · right; simp; omega
    · rcases firstOf_range p r (k + 1) with h | h
      · exact .inl h
      · right; simp at h ⊢; omega

/-- Has a field a name? -/
def isNm (nm : ByteArray) (f : Fd) : Bool := f.nm.toList == nm.toList
/-- Where the first field stands that has a name. -/
def fieldAt (l : List Fd) (nm : ByteArray) : Int := firstOf (isNm nm) l 0
def fieldV (l : List Fd) (nm : ByteArray) : Value := if fieldAt l nm < 0 then .tuple #[.int .i64 0, .bool false] else .tuple #[.int .i64 (fieldAt l nm), .bool true]

theorem fieldIs_any (f : Fd) (nm : ByteArray) (g : Nat) (w : World) (h : w.cell? ⟨g, 0, none⟩ = some (.string nm)) :
    Calls Tryz.prog 118 #[aggFd f, .pointer (some ⟨g, 0, none⟩)] w fun e w' => e = .returned (.bool (isNm nm f)) ∧ Below w.heap.size w w' := by
  unfold isNm
  have hb := Kit.below_alloc w (.cells #[.string f.nm, .int .i64 f.k, .int .i64 f.o, .bool f.ix] 94)
  have h1 := Kit.cell_kept (.cells #[.string f.nm, .int .i64 f.k, .int .i64 f.o, .bool f.ix] 94) h
  go_enter Tryz.func118, Tryz.ntmps118
  go_wp2
  go_ret
  exact ⟨rfl, hb⟩

set_option maxRecDepth 100000 in
set_option maxHeartbeats 1000000 in
theorem indexF_any (l : List Fd) (nm : ByteArray) (g : Nat) (B : Nat) (w : World) (lv : Value) (hB : B ≤ w.heap.size) (hr : FdL B w l lv) (h : w.cell? ⟨g, 0, none⟩ = some (.string nm)) :
    Calls Tryz.prog 117 #[lv, .func (.func 118) #[] #[.pointer (some ⟨g, 0, none⟩)]] w fun e w' => e = .returned (.int .i64 (fieldAt l nm)) ∧ Below w.heap.size w w' := by
  obtain ⟨a1, c1, rfl, z1⟩ := hr.len
  unfold maxLen at z1
  have hg := Kit.lt_of_cell h
  have HL := Lib.hid (And.intro hr h)
  clear hr h
  go_enter Tryz.func117, Tryz.ntmps117
  go_wp2
  go_loopw [5, 8] (fun i j wr => ∃ k : Nat, k ≤ l.length ∧ j = .int .i64 k ∧ Below w.heap.size w wr ∧ ∀ i x, i < k → l[i]? = some x → isNm nm x = false) (fun _ j _ => l.length - (intOf j).toNat)
  case atStart => exact ⟨0, by omega, rfl, Below.refl _ _, by omega⟩
  case round =>
    obtain ⟨k, hk, rfl, hBw, hz⟩ := hrel
    have HZ := Lib.hid hz; clear hz
    have hsz := hBw.size
    by_cases hlt : k < l.length
    · obtain ⟨x, hx⟩ : ∃ x, l[k]? = some x := ⟨_, List.getElem?_eq_getElem (by omega)⟩
      obtain ⟨b1, o1, d1, e1, hb1, p0, p1, p2, p3⟩ := (HL.out.1.below hBw hB).at hx
      cases e1
      have HX := Lib.hid (fieldIs_any x nm g wr ((hBw.cell (p := ⟨g, 0, none⟩) hg).trans HL.out.2))
      have i1 : (0 : Int) ≤ (k : Int) := by omega
      have i2 : (k : Int) < (l.length : Int) := by omega
      have HXX := Lib.hid hx
      have HF := Lib.hid (firstOf_at (isNm nm) l 0 k (by omega) HZ.out)
      clear hx
      cases hc : isNm nm x
      · have HC := Lib.hid hc
        rw [hc] at HX
        clear hc
        go_wp2_with (go_at_call 118; refine HX.out.mono ?_; rintro e w' ⟨rfl, hB⟩)
        go_roundw
        case rel =>
          refine ⟨k + 1, by omega, by go_num, hBw.trans (hB.mono hsz), fun i a hi ha => ?_⟩
          rcases Nat.lt_or_ge i k with h | h
          · exact HZ.out i a h ha
          · obtain rfl : i = k := by omega
            rw [HXX.out] at ha; cases ha
            exact HC.out
        case measure => simp [intOf]; omega
      · have HC := Lib.hid hc
        rw [hc] at HX
        clear hc
        go_wp2_with (go_at_call 118; refine HX.out.mono ?_; rintro e w' ⟨rfl, hB⟩)
        go_ret
        refine ⟨ret_int ?_, hBw.trans (hB.mono hsz)⟩
        unfold fieldAt
        rw [HF.out, List.drop_eq_getElem_cons hlt, firstOf, (List.getElem?_eq_some_iff.1 HXX.out).2, HC.out]
        simp
    · have hkl : k = l.length := by omega
      have HF := Lib.hid (firstOf_at (isNm nm) l 0 k (by omega) HZ.out)
      subst hkl
      go_wp2
      go_ret
      refine ⟨ret_int ?_, hBw⟩
      unfold fieldAt
      rw [HF.out, List.drop_length, firstOf]

set_option maxRecDepth 100000 in
/-- Field. -/
theorem field_any (c : Cl) (nm : ByteArray) (B : Nat) (w : World) (lv : Value) (hB : B ≤ w.heap.size) (hr : FdL B w c.l lv) :
    Calls Tryz.prog 67 #[.agg #[.string c.nm, lv], .string nm] w fun e w' => e = .returned (fieldV c.l nm) ∧ Below w.heap.size w w' := by
  have hb := Kit.below_alloc2 w (.cells #[.string c.nm, lv] 56) (.cells #[.string nm] 9)
  have h1 := Kit.cell_new (w.alloc (.cells #[.string c.nm, lv] 56)) #[.string nm] 9 0 rfl
  have HI := Lib.hid (indexF_any c.l nm _ B _ lv (by simp; omega) (hr.below hb hB) h1)
  have HB := Lib.hid hb
  rw [World.size_alloc] at HI
  obtain ⟨a1, c1, rfl, z1⟩ := hr.len
  unfold fieldV
  clear hr hb h1
  generalize fieldAt c.l nm = F at *
  by_cases hF : F < 0
  · rw [if_pos hF]
    go_enter Tryz.func67, Tryz.ntmps67
    go_wp2_with fail
    refine HI.out.mono ?_; rintro e w' ⟨rfl, hB2⟩
    go_wp2
    go_ret2
    exact ⟨rfl, HB.out.trans (hB2.mono HB.out.size)⟩
  · rw [if_neg hF]
    go_enter Tryz.func67, Tryz.ntmps67
    go_wp2_with fail
    refine HI.out.mono ?_; rintro e w' ⟨rfl, hB2⟩
    go_wp2
    go_ret2
    exact ⟨rfl, HB.out.trans (hB2.mono HB.out.size)⟩

/-- Is a field right by itself? -/
def fieldR (f : Fd) : Bool := rightNm f.nm && (Val.rightTy f.k f.o && (!f.ix || indexK f.k))

set_option maxRecDepth 100000 in
set_option maxHeartbeats 1000000 in
theorem rightField_any (ae : Addr) (f : Fd) (w : World) (hE : Env ae w) :
    Calls Tryz.prog 120 #[aggFd f] w fun e w' => e = .returned (.bool (fieldR f)) ∧ Below w.heap.size w w' := by
  have B0 := Lib.hid (Kit.below_alloc w (.cells #[.string f.nm, .int .i64 f.k, .int .i64 f.o, .bool f.ix] 94))
  have P0 := Lib.hid (Kit.box4_new w (.string f.nm) (.int .i64 f.k) (.int .i64 f.o) (.bool f.ix) 94)
  have HE := Lib.hid hE
  clear hE
  go_enter Tryz.func120, Tryz.ntmps120
  go_wp2_with fail
  refine (rightName_any f.nm _).mono ?_; rintro e w1 ⟨rfl, hB⟩
  have B1 := Lib.hid (B0.out.trans (hB.mono B0.out.size))
  have P1 := Lib.hid (P0.out.below hB P0.out.lt)
  obtain ⟨p0, p1, p2, p3⟩ := P1.out
  clear hB B0 P0
  cases h1 : rightNm f.nm
  · go_wp2
    go_ret
    exact ⟨ret_bool (by unfold fieldR; rw [h1]; rfl), B1.out⟩
  · have H1 := Lib.hid h1
    clear h1
    go_wp2_with fail
    refine (RightType_any ae f.k f.o _ (HE.out.below B1.out)).mono ?_; rintro e w2 ⟨rfl, hB⟩
    have B2 := Lib.hid (B1.out.trans (hB.mono B1.out.size))
    have P2 := Lib.hid (P1.out.below hB P1.out.lt)
    clear hB B1 P1 p0 p1 p2 p3
    obtain ⟨p0, p1, p2, p3⟩ := P2.out
    cases h2 : Val.rightTy f.k f.o
    · go_wp2
      go_ret
      exact ⟨ret_bool (by unfold fieldR; rw [h2, H1.out]; rfl), B2.out⟩
    · have H2 := Lib.hid h2
      clear h2
      generalize hx : f.ix = X at *
      cases X
      · go_wp2
        go_ret
        exact ⟨ret_bool (by unfold fieldR; rw [H2.out, H1.out, hx]; rfl), B2.out⟩
      · have HX := Lib.hid hx
        clear hx
        go_wp2_with fail
        refine (isIndexable_any f.k _).mono ?_; rintro e w3 ⟨rfl, rfl⟩
        go_wp2
        go_ret
        exact ⟨ret_bool (by unfold fieldR; rw [H2.out, H1.out, HX.out]; simp), B2.out⟩
end Go.Proofs.YtmobnlofbopbeaaGreatDoor.Cls
/- Layer 4: right classes; the same classes; what fits a class. -/
namespace Go.Proofs.YtmobnlofbopbeaaGreatDoor.Cls
open Go.RowKit
open Kit (ret_int ret_bool Moved)
open Val (Env flat bs Vl Rep RepL)

attribute [local go_sem] Oper.semAt_some

theorem firstOf_le {α : Type} (p : α → Bool) : ∀ (l : List α) (k i : Nat) (x : α), l[i]? = some x → p x = true → (k : Int) ≤ firstOf p l k ∧ firstOf p l k ≤ (k : Int) + (i : Int)
  | [], _, _, _, h, _ => by simp at h
  | y :: r, k, 0, x, h, hp => by
    simp only [List.getElem?_cons_zero, Option.some.injEq] at h
    subst h
    rw [firstOf, hp]
    simp
  | y :: r, k, i + 1, x, h, hp => by
    rw [firstOf]
    split
    · exact ⟨by omega, by omega⟩
    · have := firstOf_le p r (k + 1) i x (by simpa using h) hp
      omega
theorem fieldAt_self {l : List Fd} {i : Nat} {x : Fd} (h : l[i]? = some x) : 0 ≤ fieldAt l x.nm ∧ fieldAt l x.nm ≤ (i : Int) := by
  have := firstOf_le (isNm x.nm) l 0 i x h (by unfold isNm; exact beq_self_eq_true _)
  unfold fieldAt
  omega
theorem fieldV_self {l : List Fd} {i : Nat} {x : Fd} (h : l[i]? = some x) : fieldV l x.nm = .tuple #[.int .i64 (fieldAt l x.nm), .bool true] := by
  unfold fieldV
  rw [if_neg (by have := fieldAt_self h; omega)]

/-- Is the i-th field one that may be there? -/
def okAt (l : List Fd) (i : Nat) (f : Fd) : Bool := fieldAt l f.nm == (i : Int) && fieldR f
def allOk (l0 : List Fd) : List Fd → Nat → Bool
  | [], _ => true
  | f :: r, k => okAt l0 k f && allOk l0 r (k + 1)
theorem allOk_iff (l0 : List Fd) : ∀ (l : List Fd) (k : Nat), allOk l0 l k = true ↔ ∀ i f, l[i]? = some f → okAt l0 (k + i) f = true
  | [], _ => by simp [allOk]
  | f :: r, k => by
    rw [allOk, Bool.and_eq_true, allOk_iff l0 r (k + 1)]
    constructor
    · rintro ⟨h1, h2⟩ i g hg
      cases i with
      | zero => simp only [List.getElem?_cons_zero, Option.some.injEq] at hg; subst hg; exact h1
      | succ i => rw [show k + (i + 1) = k + 1 + i by omega]; exact h2 i g (by simpa using hg)
    · intro h
      exact ⟨h 0 f rfl, fun i g hg => by rw [show k + 1 + i = k + (i + 1) by omega]; exact h (i + 1) g (by simpa using hg)⟩
theorem allOk_not {l : List Fd} {i : Nat} {f : Fd} (h : l[i]? = some f) (hn : okAt l i f = false) : allOk l l 0 = false := by
  cases ha : allOk l l 0
  · rfl
  · have := (allOk_iff l l 0).1 ha i f h
    rw [Nat.zero_add, hn] at this
    cases this
/-- Is a class right? -/
def clsR (c : Cl) : Bool := rightNm c.nm && (decide (c.l.length ≤ 8) && allOk c.l c.l 0)

set_option maxRecDepth 100000 in
set_option maxHeartbeats 2000000 in
theorem right_cl (ae : Addr) (c : Cl) (B : Nat) (w : World) (lv : Value) (hB : B ≤ w.heap.size) (hE : Env ae w) (hr : FdL B w c.l lv) :
    Calls Tryz.prog 69 #[.agg #[.string c.nm, lv]] w fun e w' => e = .returned (.bool (clsR c)) ∧ Below w.heap.size w w' := by
  obtain ⟨a1, c1, rfl, z1⟩ := hr.len
  unfold maxLen at z1
  have B0 := Lib.hid (Kit.below_alloc w (.cells #[.string c.nm, .slice a1 c.l.length c1] 56))
  have P0 := Lib.hid (And.intro (Kit.cell_new w #[.string c.nm, .slice a1 c.l.length c1] 56 0 rfl) (Kit.cell_new w #[.string c.nm, .slice a1 c.l.length c1] 56 1 rfl))
  have HE := Lib.hid (And.intro hE (And.intro hr hB))
  clear hE hr
  go_enter Tryz.func69, Tryz.ntmps69
  go_wp2_with fail
  refine (rightName_any c.nm _).mono ?_; rintro e w1 ⟨rfl, hB1⟩
  have B1 := Lib.hid (B0.out.trans (hB1.mono B0.out.size))
  have P1 := Lib.hid (And.intro ((hB1.cell (p := ⟨w.heap.size, 0, none⟩) (Kit.lt_of_cell P0.out.1)).trans P0.out.1) ((hB1.cell (p := ⟨w.heap.size, 1, none⟩) (Kit.lt_of_cell P0.out.2)).trans P0.out.2))
  clear hB1 B0 P0
  obtain ⟨p0, p1⟩ := P1.out
  cases h1 : rightNm c.nm
  · go_wp2
    go_ret
    exact ⟨ret_bool (by unfold clsR; rw [h1]; rfl), B1.out⟩
  · have H1 := Lib.hid h1
    clear h1
    by_cases h8 : c.l.length ≤ 8
    · have h8i : ¬ (8 : Int) < (c.l.length : Int) := by omega
      have HC := Lib.hid (show clsR c = allOk c.l c.l 0 by unfold clsR; rw [H1.out, decide_eq_true h8]; rfl)
      have hz1 : w.heap.size < w1.heap.size := Kit.lt_of_cell P1.out.1
      go_wp2
      go_loopw [3, 4, 5, 6, 20] (fun _ _ _ _ j wr => ∃ k : Nat, k ≤ c.l.length ∧ j = .int .i64 k ∧ Below w1.heap.size w1 wr ∧ ∀ i y, i < k → c.l[i]? = some y → okAt c.l i y = true) (fun _ _ _ _ j _ => c.l.length - (intOf j).toNat)
      case atStart => exact ⟨0, by omega, rfl, Below.refl _ _, by omega⟩
      case round =>
        obtain ⟨k, hk, rfl, hBr, hz⟩ := hrel
        have HZ := Lib.hid hz; clear hz p0 p1
        have hsz := hBr.size
        have hBW := B1.out.trans (hBr.mono B1.out.size)
        by_cases hlt : k < c.l.length
        · obtain ⟨y, hy⟩ : ∃ y, c.l[k]? = some y := ⟨_, List.getElem?_eq_getElem (by omega)⟩
          obtain ⟨b1, o1, d1, e1, hb1, q0, q1, q2, q3⟩ := (HE.out.2.1.below hBW HE.out.2.2).at hy
          cases e1
          have i1 : (0 : Int) ≤ (k : Int) := by omega
          have i2 : (k : Int) < (c.l.length : Int) := by omega
          have u0 := Kit.cell_kept (.cells #[.string y.nm, .int .i64 y.k, .int .i64 y.o, .bool y.ix] 94) ((hBr.cell (p := ⟨w.heap.size, 0, none⟩) hz1).trans P1.out.1)
          have u1 := Kit.cell_kept (.cells #[.string y.nm, .int .i64 y.k, .int .i64 y.o, .bool y.ix] 94) ((hBr.cell (p := ⟨w.heap.size, 1, none⟩) hz1).trans P1.out.2)
          have U := Lib.hid (And.intro u0 u1)
          have HY := Lib.hid hy
          have HS := Lib.hid (fieldV_self hy)
          have HF := fieldAt_self hy
          have B2 := Lib.hid (hBW.trans ((Kit.below_alloc wr (.cells #[.string y.nm, .int .i64 y.k, .int .i64 y.o, .bool y.ix] 94)).mono hBW.size))
          have F2 := Lib.hid (Kit.box4_new wr (.string y.nm) (.int .i64 y.k) (.int .i64 y.o) (.bool y.ix) 94)
          have hBk : B ≤ (wr.alloc (.cells #[.string y.nm, .int .i64 y.k, .int .i64 y.o, .bool y.ix] 94)).heap.size := by have := B2.out.size; have := HE.out.2.2; omega
          have HFc := Lib.hid (field_any c y.nm B _ _ hBk (HE.out.2.1.below B2.out HE.out.2.2))
          clear hy
          go_wp2_with fail
          refine HFc.out.mono ?_; rintro e w2 ⟨rfl, hB3⟩
          rw [HS.out]
          have B3 := Lib.hid (B2.out.trans (hB3.mono B2.out.size))
          have F3 := Lib.hid (F2.out.below hB3 F2.out.lt)
          have B13 := Lib.hid (hBr.trans (((Kit.below_alloc wr (.cells #[.string y.nm, .int .i64 y.k, .int .i64 y.o, .bool y.ix] 94)).mono hsz).trans (hB3.mono (by simp; omega))))
          clear hB3 HFc hBk F2 B2 u0 u1 U q0 q1 q2 q3
          obtain ⟨q0, q1, q2, q3⟩ := F3.out
          by_cases hF : fieldAt c.l y.nm = (k : Int)
          · have hFb : (fieldAt c.l y.nm != (k : Int)) = false := by simp [hF]
            go_wp2_with fail
            refine (rightField_any ae y _ (HE.out.1.below B3.out)).mono ?_; rintro e w3 ⟨rfl, hB4⟩
            have B4 := Lib.hid (B3.out.trans (hB4.mono B3.out.size))
            cases hc : fieldR y
            · have HN := Lib.hid (allOk_not HY.out (by unfold okAt; rw [hc, Bool.and_false]))
              clear hc
              go_wp2
              go_ret
              exact ⟨ret_bool (by rw [HC.out, HN.out]), B4.out⟩
            · have HK := Lib.hid (show okAt c.l k y = true by unfold okAt; rw [hc, hF]; simp)
              clear hc
              go_wp2
              go_roundw
              case rel =>
                refine ⟨k + 1, by omega, by go_num, B13.out.trans (hB4.mono B13.out.size), fun i a hi ha => ?_⟩
                rcases Nat.lt_or_ge i k with h | h
                · exact HZ.out i a h ha
                · obtain rfl : i = k := by omega
                  rw [HY.out] at ha; cases ha
                  exact HK.out
              case measure => simp [intOf]; omega
          · have hFb : (fieldAt c.l y.nm != (k : Int)) = true := by simpa using hF
            have HN := Lib.hid (allOk_not HY.out (by unfold okAt; rw [show (fieldAt c.l y.nm == (k : Int)) = false from beq_eq_false_iff_ne.2 hF]; rfl))
            clear hF
            go_wp2
            go_ret
            exact ⟨ret_bool (by rw [HC.out, HN.out]), B3.out⟩
        · have hkl : k = c.l.length := by omega
          subst hkl
          have HN := Lib.hid ((allOk_iff c.l c.l 0).2 (fun i f hf => by rw [Nat.zero_add]; exact HZ.out i f (List.getElem?_eq_some_iff.1 hf).1 hf))
          go_wp2
          go_ret
          exact ⟨ret_bool (by rw [HC.out, HN.out]), hBW⟩
    · have h8i : (8 : Int) < (c.l.length : Int) := by omega
      have HC := Lib.hid (show clsR c = false by unfold clsR; rw [decide_eq_false h8]; simp)
      clear h8
      go_wp2
      go_ret
      exact ⟨ret_bool HC.out.symm, B1.out⟩
end Go.Proofs.YtmobnlofbopbeaaGreatDoor.Cls
/- Layer 4: the same classes; what fits a class. -/
namespace Go.Proofs.YtmobnlofbopbeaaGreatDoor.Cls
open Go.RowKit
open Kit (ret_int ret_bool Moved)
open Val (Env flat bs Vl Rep RepL)

attribute [local go_sem] Oper.semAt_some

theorem field_ext {x y : Fd} : x = y ↔ x.nm.toList = y.nm.toList ∧ x.k = y.k ∧ x.o = y.o ∧ x.ix = y.ix := by
  constructor
  · rintro rfl; exact ⟨rfl, rfl, rfl, rfl⟩
  · rintro ⟨h1, h2, h3, h4⟩
    obtain ⟨n, k, o, b⟩ := x
    obtain ⟨n', k', o', b'⟩ := y
    obtain rfl := Kit.bytes_inj h1
    cases h2; cases h3; cases h4; rfl
theorem run_neq_field (x y : Fd) (w : World) : (binOp .neq 94 (aggFd x) (aggFd y)).run Tryz.prog w = .ok (.bool (!decide (x = y))) w := by
  simp only [field_ext]
  simp [go_sem, Tryz.underlying94, Tryz.underlying26]
  split <;> (try split) <;> (try split) <;> (try split) <;> simp_all
theorem guard_field : Tryz.prog.eqGuardType Tryz.prog.depth 94 = false := by kernel_rfl
theorem run_guard_field (x y : Operand) (f g : Fd) (w : World) : (eqGuard .neq 94 x y (aggFd f) (aggFd g)).run Tryz.prog w = .ok () w := run_eqGuard_agg w .neq 94 x y _ _ guard_field
attribute [local go_sem high] run_neq_field run_guard_field
set_option maxRecDepth 100000 in
set_option maxHeartbeats 2000000 in
theorem equal_any (l m : List Fd) (B : Nat) (w : World) (lv mv : Value) (hB : B ≤ w.heap.size) (hl : FdL B w l lv) (hm : FdL B w m mv) :
    Calls Tryz.prog 121 #[lv, mv] w fun e w' => e = .returned (.bool (decide (l = m))) ∧ Below w.heap.size w w' := by
  obtain ⟨a1, c1, rfl, z1⟩ := hl.len
  obtain ⟨a2, c2, rfl, z2⟩ := hm.len
  unfold maxLen at z1 z2
  have HL := Lib.hid (And.intro hl hm)
  clear hl hm
  by_cases hlen : l.length = m.length
  · have hn : ((l.length : Int) != (m.length : Int)) = false := by simp [hlen]
    go_enter Tryz.func121, Tryz.ntmps121
    go_wp2
    go_loopw [5, 13] (fun _ j wr => ∃ k : Nat, k ≤ l.length ∧ j = .int .i64 k ∧ Below w.heap.size w wr ∧ ∀ i, i < k → l[i]? = m[i]?) (fun _ j _ => l.length - (intOf j).toNat)
    case atStart => exact ⟨0, by omega, rfl, Below.refl _ _, by omega⟩
    case round =>
      obtain ⟨k, hk, rfl, hBw, hz⟩ := hrel
      have HZ := Lib.hid hz; clear hz
      have hsz := hBw.size
      by_cases hlt : k < l.length
      · obtain ⟨x, hx⟩ : ∃ x, l[k]? = some x := ⟨_, List.getElem?_eq_getElem (by omega)⟩
        obtain ⟨y, hy⟩ : ∃ y, m[k]? = some y := ⟨_, List.getElem?_eq_getElem (by omega)⟩
        obtain ⟨b1, o1, d1, e1, hb1, p0, p1, p2, p3⟩ := (HL.out.1.below hBw hB).at hx
        obtain ⟨b2, o2, d2, e2, hb2, q0, q1, q2, q3⟩ := (HL.out.2.below hBw hB).at hy
        cases e1; cases e2
        have i1 : (0 : Int) ≤ (k : Int) := by omega
        have i2 : (k : Int) < (l.length : Int) := by omega
        have i3 : (k : Int) < (m.length : Int) := by omega
        have HXY := Lib.hid (And.intro hx hy)
        clear hx hy
        go_upto_region 6 with fail
        go_quiet (fail)
        by_cases hxy : x = y
        · have hd : decide (x = y) = true := decide_eq_true hxy
          rw [hd]
          go_wp2
          go_roundw
          case rel =>
            refine ⟨k + 1, by omega, by go_num, Kit.bdN hBw _, fun i hi => ?_⟩
            rcases Nat.lt_or_ge i k with h | h
            · exact HZ.out i h
            · obtain rfl : i = k := by omega
              rw [HXY.out.1, HXY.out.2, hxy]
          case measure => simp [intOf]; omega
        · have hd : decide (x = y) = false := decide_eq_false hxy
          rw [hd]
          have HN := Lib.hid (show decide (l = m) = false from decide_eq_false (fun e => hxy (by have h1 := HXY.out.1; rw [e, HXY.out.2] at h1; exact (Option.some.inj h1).symm)))
          clear hxy
          go_wp2
          go_ret
          exact ⟨ret_bool HN.out.symm, Kit.bdN hBw _⟩
      · have hkl : k = l.length := by omega
        subst hkl
        have HN := Lib.hid (show decide (l = m) = true from decide_eq_true (List.ext_getElem? fun i => by
          rcases Nat.lt_or_ge i l.length with h | h
          · exact HZ.out i h
          · rw [List.getElem?_eq_none h, List.getElem?_eq_none (by omega)]))
        go_wp2
        go_ret
        exact ⟨ret_bool HN.out.symm, hBw⟩
  · have hn : ((l.length : Int) != (m.length : Int)) = true := by simp; omega
    have HN := Lib.hid (show decide (l = m) = false from decide_eq_false (fun e => hlen (by rw [e])))
    clear hlen
    go_enter Tryz.func121, Tryz.ntmps121
    go_wp2
    go_ret
    exact ⟨ret_bool HN.out.symm, Below.refl _ _⟩

/-- Are all parts of two classes the same? -/
def sameC (a b : Cl) : Bool := (a.nm.toList == b.nm.toList) && decide (a.l = b.l)
theorem sameC_iff {a b : Cl} : sameC a b = true ↔ a = b := by
  unfold sameC
  rw [Bool.and_eq_true, beq_iff_eq, decide_eq_true_iff]
  constructor
  · rintro ⟨h1, h2⟩
    obtain ⟨n, l⟩ := a
    obtain ⟨n', l'⟩ := b
    obtain rfl := Kit.bytes_inj h1
    cases h2; rfl
  · rintro rfl; exact ⟨rfl, rfl⟩

set_option maxRecDepth 100000 in
set_option maxHeartbeats 1000000 in
theorem same_cl (a b : Cl) (B : Nat) (w : World) (lv mv : Value) (hB : B ≤ w.heap.size) (hl : FdL B w a.l lv) (hm : FdL B w b.l mv) :
    Calls Tryz.prog 71 #[.agg #[.string a.nm, lv], .agg #[.string b.nm, mv]] w fun e w' => e = .returned (.bool (sameC a b)) ∧ Below w.heap.size w w' := by
  obtain ⟨a1, c1, rfl, z1⟩ := hl.len
  obtain ⟨a2, c2, rfl, z2⟩ := hm.len
  have B0 := Lib.hid (Kit.below_alloc2 w (.cells #[.string a.nm, .slice a1 a.l.length c1] 56) (.cells #[.string b.nm, .slice a2 b.l.length c2] 56))
  have HQ := Lib.hid (equal_any a.l b.l B _ _ _ (by have := B0.out.size; omega) (hl.below B0.out hB) (hm.below B0.out hB))
  clear hl hm
  unfold sameC
  cases h : a.nm.toList == b.nm.toList
  · rw [Bool.false_and]
    go_enter Tryz.func71, Tryz.ntmps71
    go_wp2
    go_ret
    exact ⟨rfl, B0.out⟩
  · rw [Bool.true_and]
    go_enter Tryz.func71, Tryz.ntmps71
    go_wp2_with fail
    refine HQ.out.mono ?_; rintro e w1 ⟨rfl, hB1⟩
    go_wp2
    go_ret
    exact ⟨rfl, B0.out.trans (hB1.mono B0.out.size)⟩

/-- Does a value not fit its field? -/
def misfit (p : Fd × Vl) : Bool := !Val.fitsV p.2 p.1.k p.1.o
/-- What Check tells. -/
def checkC (c : Cl) (l : List Vl) : Int × Int :=
  if clsR c = false then (0, 40) else if l.length ≠ c.l.length then (min (l.length : Int) (c.l.length : Int), 42)
  else if firstOf misfit (c.l.zip l) 0 < 0 then (0, 0) else (firstOf misfit (c.l.zip l) 0, 42)

/-- vv is the list l, or a part of one that is empty. -/
def RepW (B : Nat) (w : World) (l : List Vl) (vv : Value) : Prop := RepL B w l vv ∨ (l = [] ∧ ∃ a c, vv = .slice a 0 c)
theorem RepW.len {B : Nat} {w : World} {l : List Vl} {vv : Value} (h : RepW B w l vv) : ∃ a c, vv = .slice a l.length c ∧ l.length ≤ maxLen := by
  rcases h with h | ⟨rfl, a, c, h⟩
  · exact h.len
  · exact ⟨a, c, h, Nat.zero_le _⟩
theorem RepW.below {B n : Nat} {w w' : World} {l : List Vl} {vv : Value} (h : RepW B w l vv) (hb : Below n w w') (hB : B ≤ n) : RepW B w' l vv := h.imp (·.below hb hB) id
theorem RepW.mono {B B' : Nat} {w : World} {l : List Vl} {vv : Value} (h : RepW B w l vv) (hB : B ≤ B') : RepW B' w l vv := h.imp (·.mono hB) id
theorem RepW.at {B : Nat} {w : World} {l : List Vl} {vv : Value} (h : RepW B w l vv) {i : Nat} {x : Vl} (hx : l[i]? = some x) :
    ∃ b o c lw, vv = .slice (some ⟨b, o, none⟩) l.length c ∧ b < B ∧ (w.cell? ⟨b, o + i * 4, none⟩ = some (.int .i64 x.k) ∧ w.cell? ⟨b, o + i * 4 + 1, none⟩ = some (.int .i64 x.n) ∧ w.cell? ⟨b, o + i * 4 + 2, none⟩ = some (.string x.s) ∧ w.cell? ⟨b, o + i * 4 + 3, none⟩ = some lw) ∧ RepL B w x.l lw := by
  rcases h with h | ⟨rfl, _⟩
  · exact h.at hx
  · simp at hx

set_option maxRecDepth 100000 in
set_option maxHeartbeats 4000000 in
/-- Check, also of a part of a list that is empty. -/
theorem check_anyW (ae : Addr) (c : Cl) (l : List Vl) (hf : ∀ y ∈ l, y.fits) (B : Nat) (w : World) (lv vv : Value) (hB : B ≤ w.heap.size) (hE : Env ae w) (hl : FdL B w c.l lv) (hv : RepW B w l vv) :
    Calls Tryz.prog 35 #[.agg #[.string c.nm, lv], vv] w fun e w' => e = .returned (.tuple #[.int .i64 (checkC c l).1, .int .i64 (checkC c l).2]) ∧ Below w.heap.size w w' := by
  obtain ⟨a1, c1, rfl, z1⟩ := hl.len
  obtain ⟨a2, c2, rfl, z2⟩ := hv.len
  unfold maxLen at z1 z2
  have B0 := Lib.hid (Kit.below_alloc w (.cells #[.string c.nm, .slice a1 c.l.length c1] 56))
  have P0 := Lib.hid (And.intro (Kit.cell_new w #[.string c.nm, .slice a1 c.l.length c1] 56 0 rfl) (Kit.cell_new w #[.string c.nm, .slice a1 c.l.length c1] 56 1 rfl))
  have HR := Lib.hid (right_cl ae c B _ _ (by have := B0.out.size; omega) (hE.below B0.out) (hl.below B0.out hB))
  have HE := Lib.hid (And.intro hE (And.intro hl (And.intro hv (And.intro hB hf))))
  clear hE hl hv hf
  go_enter Tryz.func35, Tryz.ntmps35
  go_wp2_with fail
  refine HR.out.mono ?_; rintro e w1 ⟨rfl, hB1⟩
  have B1 := Lib.hid (B0.out.trans (hB1.mono B0.out.size))
  have P1 := Lib.hid (And.intro ((hB1.cell (p := ⟨w.heap.size, 0, none⟩) (Kit.lt_of_cell P0.out.1)).trans P0.out.1) ((hB1.cell (p := ⟨w.heap.size, 1, none⟩) (Kit.lt_of_cell P0.out.2)).trans P0.out.2))
  clear hB1 B0 P0 HR
  obtain ⟨p0, p1⟩ := P1.out
  cases h1 : clsR c
  · go_wp2
    go_ret2
    exact ⟨by unfold checkC; rw [if_pos h1]; rfl, B1.out⟩
  · have H1 := Lib.hid (show ¬ clsR c = false by rw [h1]; simp)
    clear h1
    by_cases hn : l.length = c.l.length
    · have hni : ((l.length : Int) != (c.l.length : Int)) = false := by simp [hn]
      have HC := Lib.hid (show checkC c l = if firstOf misfit (c.l.zip l) 0 < 0 then (0, 0) else (firstOf misfit (c.l.zip l) 0, 42) by unfold checkC; rw [if_neg H1.out, if_neg (by simpa using hn)])
      have hz1 : w.heap.size < w1.heap.size := Kit.lt_of_cell P1.out.1
      go_wp2
      go_loopw [6, 7, 26] (fun _ _ j wr => ∃ k : Nat, k ≤ c.l.length ∧ j = .int .i64 k ∧ Below w1.heap.size w1 wr ∧ ∀ i q, i < k → (c.l.zip l)[i]? = some q → misfit q = false) (fun _ _ j _ => c.l.length - (intOf j).toNat)
      case atStart => exact ⟨0, by omega, rfl, Below.refl _ _, by omega⟩
      case round =>
        obtain ⟨k, hk, rfl, hBr, hz⟩ := hrel
        have HZ := Lib.hid hz; clear hz p0 p1
        have hsz := hBr.size
        have hBW := B1.out.trans (hBr.mono B1.out.size)
        have HF := Lib.hid (firstOf_at misfit (c.l.zip l) 0 k (by simp; omega) HZ.out)
        by_cases hlt : k < c.l.length
        · obtain ⟨y, hy⟩ : ∃ y, c.l[k]? = some y := ⟨_, List.getElem?_eq_getElem (by omega)⟩
          obtain ⟨v, hv⟩ : ∃ v, l[k]? = some v := ⟨_, List.getElem?_eq_getElem (by omega)⟩
          obtain ⟨b1, o1, d1, e1, hb1, q0, q1, q2, q3⟩ := (HE.out.2.1.below hBW HE.out.2.2.2.1).at hy
          cases e1
          obtain ⟨b2, o2, d2, lw, e2, hb2, ⟨r0, r1, r2, r3⟩, hlw⟩ := (HE.out.2.2.1.below hBW HE.out.2.2.2.1).at hv
          cases e2
          obtain ⟨a3, c3, rfl, z3⟩ := hlw.len
          have i1 : (0 : Int) ≤ (k : Int) := by omega
          have i2 : (k : Int) < (c.l.length : Int) := by omega
          have i3 : (k : Int) < (l.length : Int) := by omega
          have HQ := Lib.hid (show (c.l.zip l)[k]? = some (y, v) by rw [List.getElem?_zip_eq_some]; exact ⟨hy, hv⟩)
          have hBa := Kit.below_alloc wr (.cells #[.string y.nm, .int .i64 y.k, .int .i64 y.o, .bool y.ix] 94)
          have B2 := Lib.hid (hBW.trans (hBa.mono hBW.size))
          have B12 := Lib.hid (hBr.trans (hBa.mono hsz))
          have R2 := Lib.hid ((Val.rep_in hlw).below hBa (by have := hBW.size; have := HE.out.2.2.2.1; omega))
          have HX := Lib.hid (fun W (h : Below (wr.alloc (.cells #[.string y.nm, .int .i64 y.k, .int .i64 y.o, .bool y.ix] 94)).heap.size (wr.alloc (.cells #[.string y.nm, .int .i64 y.k, .int .i64 y.o, .bool y.ix] 94)) W) => Val.fits_any ae v (HE.out.2.2.2.2 v (List.mem_of_getElem? hv)) y.k y.o B W _ (by have := h.size; have := B2.out.size; have := HE.out.2.2.2.1; omega) (HE.out.1.below (B2.out.trans (h.mono B2.out.size))) (R2.out.below h (by have := B2.out.size; have := HE.out.2.2.2.1; omega)))
          have s0 := Kit.cell_kept (.cells #[.string y.nm, .int .i64 y.k, .int .i64 y.o, .bool y.ix] 94) r0
          have s1 := Kit.cell_kept (.cells #[.string y.nm, .int .i64 y.k, .int .i64 y.o, .bool y.ix] 94) r1
          have s2 := Kit.cell_kept (.cells #[.string y.nm, .int .i64 y.k, .int .i64 y.o, .bool y.ix] 94) r2
          have s3 := Kit.cell_kept (.cells #[.string y.nm, .int .i64 y.k, .int .i64 y.o, .bool y.ix] 94) r3
          have t1 := Kit.cell_new wr #[.string y.nm, .int .i64 y.k, .int .i64 y.o, .bool y.ix] 94 1 rfl
          have t2 := Kit.cell_new wr #[.string y.nm, .int .i64 y.k, .int .i64 y.o, .bool y.ix] 94 2 rfl
          have HX2 := Lib.hid (HX.out _ ((Below.refl _ _).drew))
          clear hy hv hlw z3 R2 HX hBa
          have h1 := Lib.hid (And.intro s0 (And.intro s1 (And.intro s2 (And.intro s3 (And.intro t1 t2)))))
          clear r0 r1 r2 r3 s0 s1 s2 s3 t1 t2
          go_upto_region 8 with fail
          obtain ⟨s0, s1, s2, s3, t1, t2⟩ := h1.out
          clear h1 q0 q1 q2 q3
          generalize wr.alloc (.cells #[.string y.nm, .int .i64 y.k, .int .i64 y.o, .bool y.ix] 94) = W0 at *
          go_region_held3 (fun w' => w'.cell? ⟨b2, o2 + k * 4, none⟩ = some (.int .i64 v.k) ∧ w'.cell? ⟨b2, o2 + k * 4 + 1, none⟩ = some (.int .i64 v.n) ∧ w'.cell? ⟨b2, o2 + k * 4 + 2, none⟩ = some (.string v.s) ∧ w'.cell? ⟨b2, o2 + k * 4 + 3, none⟩ = some (.slice a3 v.l.length c3) ∧ w'.cell? ⟨wr.heap.size, 1, none⟩ = some (.int .i64 y.k) ∧ w'.cell? ⟨wr.heap.size, 2, none⟩ = some (.int .i64 y.o))
            (first
              | exact ⟨s0, s1, s2, s3, t1, t2⟩
              | exact ⟨(hB3.cell (p := ⟨b2, o2 + k * 4, none⟩) (Kit.lt_of_cell s0)).trans s0, (hB3.cell (p := ⟨b2, o2 + k * 4 + 1, none⟩) (Kit.lt_of_cell s1)).trans s1, (hB3.cell (p := ⟨b2, o2 + k * 4 + 2, none⟩) (Kit.lt_of_cell s2)).trans s2, (hB3.cell (p := ⟨b2, o2 + k * 4 + 3, none⟩) (Kit.lt_of_cell s3)).trans s3, (hB3.cell (p := ⟨wr.heap.size, 1, none⟩) (Kit.lt_of_cell t1)).trans t1, (hB3.cell (p := ⟨wr.heap.size, 2, none⟩) (Kit.lt_of_cell t2)).trans t2⟩)
            (first
              | (go_at_call 26; refine HX2.out.mono ?_; rintro e w3 ⟨rfl, hB3⟩))
          have hB0 := (B12.out.drew).trans (hB3.mono B12.out.size)
          have hBE := (B2.out.drew).trans (hB3.mono B2.out.size)
          cases hc : Val.fitsV v y.k y.o
          · have hm : misfit (y, v) = true := by unfold misfit; rw [hc]; rfl
            have hfo : firstOf misfit (c.l.zip l) 0 = (k : Int) := by
              rw [HF.out, List.drop_eq_getElem_cons (by simp; omega), firstOf, (List.getElem?_eq_some_iff.1 HQ.out).2, hm]
              simp
            have HCC := Lib.hid (show checkC c l = ((k : Int), 42) by rw [HC.out, hfo, if_neg (by omega)])
            clear hc hm hfo
            go_wp2
            go_ret2
            exact ⟨by rw [HCC.out]; rfl, hBE⟩
          · have HM := Lib.hid (show misfit (y, v) = false by unfold misfit; rw [hc]; rfl)
            clear hc
            go_wp2
            go_roundw
            case rel =>
              refine ⟨k + 1, by omega, by go_num, hB0, fun i a hi ha => ?_⟩
              rcases Nat.lt_or_ge i k with h | h
              · exact HZ.out i a h ha
              · obtain rfl : i = k := by omega
                rw [HQ.out] at ha; cases ha
                exact HM.out
            case measure => simp [intOf]; omega
        · have hkl : k = c.l.length := by omega
          subst hkl
          have hc0 : firstOf misfit (c.l.zip l) 0 = -1 := by rw [HF.out, List.drop_eq_nil_of_le (by simp; omega)]; rfl
          have HCC := Lib.hid (show checkC c l = (0, 0) by rw [HC.out, hc0]; rfl)
          clear hc0
          go_wp2
          go_ret2
          exact ⟨by rw [HCC.out]; rfl, hBW⟩
    · have hni : ((l.length : Int) != (c.l.length : Int)) = true := by simp; omega
      have HC := Lib.hid (show checkC c l = (min (l.length : Int) (c.l.length : Int), 42) by unfold checkC; rw [if_neg H1.out, if_pos (by simpa using hn)])
      clear hn
      go_wp2
      go_ret2
      exact ⟨by rw [HC.out]; rfl, B1.out⟩
/-- Check. -/
theorem check_any (ae : Addr) (c : Cl) (l : List Vl) (hf : ∀ y ∈ l, y.fits) (B : Nat) (w : World) (lv vv : Value) (hB : B ≤ w.heap.size) (hE : Env ae w) (hl : FdL B w c.l lv) (hv : RepL B w l vv) :
    Calls Tryz.prog 35 #[.agg #[.string c.nm, lv], vv] w fun e w' => e = .returned (.tuple #[.int .i64 (checkC c l).1, .int .i64 (checkC c l).2]) ∧ Below w.heap.size w w' := check_anyW ae c l hf B w lv vv hB hE hl (.inl hv)
end Go.Proofs.YtmobnlofbopbeaaGreatDoor.Cls
