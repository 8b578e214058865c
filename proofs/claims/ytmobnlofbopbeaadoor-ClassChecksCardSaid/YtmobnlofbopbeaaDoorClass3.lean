/- Layer 4: where a field stands; right fields; right classes. -/
import Derived.Test.YtmobnlofbopbeaaDoorClass2
namespace Go.Proofs.YtmobnlofbopbeaaDoor.Cls
open Go.RowKit
open Kit (ret_int ret_bool Moved)
open Val (Env flat bs Vl Rep RepL)

attribute [local go_sem] Oper.semAt_some

/-- Where the first stands that p holds of; -1: none does. -/
def firstOf {α : Type} (p : α → Bool) : List α → Nat → Int
  | [], _ => -1
  | x :: r, k => if p x then k else firstOf p r (k + 1)
theorem firstOf_at {α : Type} (p : α → Bool) : ∀ (l : List α) (k j : Nat), j ≤ l.length → (∀ i x, i < j → l[i]? = some x → p x = false) → firstOf p l k = firstOf p (l.drop j) (k + j)
  | _, _, 0, _, _ => rfl
  | [], _, j + 1, h, _ => by simp at h
  | x :: r, k, j + 1, h, hx => by
    rw [firstOf, hx 0 x (by omega) rfl]
    simp only [Bool.false_eq_true, if_false, List.drop_succ_cons]
    rw [firstOf_at p r (k + 1) j (by simpa using h) fun i y hi hy => hx (i + 1) y (by omega) (by simpa using hy), show k + 1 + j = k + (j + 1) from by omega]
theorem firstOf_range {α : Type} (p : α → Bool) : ∀ (l : List α) (k : Nat), firstOf p l k = -1 ∨ ((k : Int) ≤ firstOf p l k ∧ firstOf p l k < (k : Int) + (l.length : Int))
  | [], _ => .inl rfl
  | x :: r, k => by
    rw [firstOf]
    split
    · right; simp; omega
    · rcases firstOf_range p r (k + 1) with h | h
      · exact .inl h
      · right; simp at h ⊢; omega

/-- Has a field a name? -/
def isNm (nm : ByteArray) (f : Fd) : Bool := f.nm.toList == nm.toList
/-- Where the first field stands that has a name. -/
def fieldAt (l : List Fd) (nm : ByteArray) : Int := firstOf (isNm nm) l 0
def fieldV (l : List Fd) (nm : ByteArray) : Value := if fieldAt l nm < 0 then .tuple #[.int .i64 0, .bool false] else .tuple #[.int .i64 (fieldAt l nm), .bool true]

theorem fieldIs_any (f : Fd) (nm : ByteArray) (g : Nat) (w : World) (h : w.cell? ⟨g, 0, none⟩ = some (.string nm)) :
    Calls Tryd.prog 32 #[aggFd f, .pointer (some ⟨g, 0, none⟩)] w fun e w' => e = .returned (.bool (isNm nm f)) ∧ Below w.heap.size w w' := by
  unfold isNm
  have hb := Kit.below_alloc w (.cells #[.string f.nm, .int .i64 f.k, .int .i64 f.o, .bool f.ix] 46)
  have h1 := Kit.cell_kept (.cells #[.string f.nm, .int .i64 f.k, .int .i64 f.o, .bool f.ix] 46) h
  go_enter Tryd.func32, Tryd.ntmps32
  go_wp2
  go_ret
  exact ⟨rfl, hb⟩

set_option maxRecDepth 100000 in
set_option maxHeartbeats 1000000 in
theorem indexF_any (l : List Fd) (nm : ByteArray) (g : Nat) (B : Nat) (w : World) (lv : Value) (hB : B ≤ w.heap.size) (hr : FdL B w l lv) (h : w.cell? ⟨g, 0, none⟩ = some (.string nm)) :
    Calls Tryd.prog 31 #[lv, .func (.func 32) #[] #[.pointer (some ⟨g, 0, none⟩)]] w fun e w' => e = .returned (.int .i64 (fieldAt l nm)) ∧ Below w.heap.size w w' := by
  obtain ⟨a1, c1, rfl, z1⟩ := hr.len
  unfold maxLen at z1
  have hg := Kit.lt_of_cell h
  have HL := Lib.hid (And.intro hr h)
  clear hr h
  go_enter Tryd.func31, Tryd.ntmps31
  go_wp2
  go_loopw [5, 8] (fun i j wr => ∃ k : Nat, k ≤ l.length ∧ j = .int .i64 k ∧ Below w.heap.size w wr ∧ ∀ i x, i < k → l[i]? = some x → isNm nm x = false) (fun _ j _ => l.length - (intOf j).toNat)
  case atStart => exact ⟨0, by omega, rfl, Below.refl _ _, by omega⟩
  case round =>
    obtain ⟨k, hk, rfl, hBw, hz⟩ := hrel
    have HZ := Lib.hid hz; clear hz
    have hsz := hBw.size
    by_cases hlt : k < l.length
    · obtain ⟨x, hx⟩ : ∃ x, l[k]? = some x := ⟨_, List.getElem?_eq_getElem (by omega)⟩
      obtain ⟨b1, o1, d1, e1, hb1, p0, p1, p2, p3⟩ := (HL.out.1.below hBw hB).at hx
      cases e1
      have HX := Lib.hid (fieldIs_any x nm g wr ((hBw.cell (p := ⟨g, 0, none⟩) hg).trans HL.out.2))
      have i1 : (0 : Int) ≤ (k : Int) := by omega
      have i2 : (k : Int) < (l.length : Int) := by omega
      have HXX := Lib.hid hx
      have HF := Lib.hid (firstOf_at (isNm nm) l 0 k (by omega) HZ.out)
      clear hx
      cases hc : isNm nm x
      · have HC := Lib.hid hc
        rw [hc] at HX
        clear hc
        go_wp2_with (go_at_call 32; refine HX.out.mono ?_; rintro e w' ⟨rfl, hB⟩)
        go_roundw
        case rel =>
          refine ⟨k + 1, by omega, by go_num, hBw.trans (hB.mono hsz), fun i a hi ha => ?_⟩
          rcases Nat.lt_or_ge i k with h | h
          · exact HZ.out i a h ha
          · obtain rfl : i = k := by omega
            rw [HXX.out] at ha; cases ha
            exact HC.out
        case measure => simp [intOf]; omega
      · have HC := Lib.hid hc
        rw [hc] at HX
        clear hc
        go_wp2_with (go_at_call 32; refine HX.out.mono ?_; rintro e w' ⟨rfl, hB⟩)
        go_ret
        refine ⟨ret_int ?_, hBw.trans (hB.mono hsz)⟩
        unfold fieldAt
        rw [HF.out, List.drop_eq_getElem_cons hlt, firstOf, (List.getElem?_eq_some_iff.1 HXX.out).2, HC.out]
        simp
    · have hkl : k = l.length := by omega
      have HF := Lib.hid (firstOf_at (isNm nm) l 0 k (by omega) HZ.out)
      subst hkl
      go_wp2
      go_ret
      refine ⟨ret_int ?_, hBw⟩
      unfold fieldAt
      rw [HF.out, List.drop_length, firstOf]

set_option maxRecDepth 100000 in
/-- Field. -/
theorem field_any (c : Cl) (nm : ByteArray) (B : Nat) (w : World) (lv : Value) (hB : B ≤ w.heap.size) (hr : FdL B w c.l lv) :
    Calls Tryd.prog 13 #[.agg #[.string c.nm, lv], .string nm] w fun e w' => e = .returned (fieldV c.l nm) ∧ Below w.heap.size w w' := by
  have hb := Kit.below_alloc2 w (.cells #[.string c.nm, lv] 27) (.cells #[.string nm] 9)
  have h1 := Kit.cell_new (w.alloc (.cells #[.string c.nm, lv] 27)) #[.string nm] 9 0 rfl
  have HI := Lib.hid (indexF_any c.l nm _ B _ lv (by simp; omega) (hr.below hb hB) h1)
  have HB := Lib.hid hb
  rw [World.size_alloc] at HI
  obtain ⟨a1, c1, rfl, z1⟩ := hr.len
  unfold fieldV
  clear hr hb h1
  generalize fieldAt c.l nm = F at *
  by_cases hF : F < 0
  · rw [if_pos hF]
    go_enter Tryd.func13, Tryd.ntmps13
    go_wp2_with fail
    refine HI.out.mono ?_; rintro e w' ⟨rfl, hB2⟩
    go_wp2
    go_ret2
    exact ⟨rfl, HB.out.trans (hB2.mono HB.out.size)⟩
  · rw [if_neg hF]
    go_enter Tryd.func13, Tryd.ntmps13
    go_wp2_with fail
    refine HI.out.mono ?_; rintro e w' ⟨rfl, hB2⟩
    go_wp2
    go_ret2
    exact ⟨rfl, HB.out.trans (hB2.mono HB.out.size)⟩

/-- Is a field right by itself? -/
def fieldR (f : Fd) : Bool := rightNm f.nm && (Val.rightTy f.k f.o && (!f.ix || indexK f.k))

set_option maxRecDepth 100000 in
set_option maxHeartbeats 1000000 in
theorem rightField_any (ae : Addr) (f : Fd) (w : World) (hE : Env ae w) :
    Calls Tryd.prog 34 #[aggFd f] w fun e w' => e = .returned (.bool (fieldR f)) ∧ Below w.heap.size w w' := by
  have B0 := Lib.hid (Kit.below_alloc w (.cells #[.string f.nm, .int .i64 f.k, .int .i64 f.o, .bool f.ix] 46))
  have P0 := Lib.hid (Kit.box4_new w (.string f.nm) (.int .i64 f.k) (.int .i64 f.o) (.bool f.ix) 46)
  have HE := Lib.hid hE
  clear hE
  go_enter Tryd.func34, Tryd.ntmps34
  go_wp2_with fail
  refine (rightName_any f.nm _).mono ?_; rintro e w1 ⟨rfl, hB⟩
  have B1 := Lib.hid (B0.out.trans (hB.mono B0.out.size))
  have P1 := Lib.hid (P0.out.below hB P0.out.lt)
  obtain ⟨p0, p1, p2, p3⟩ := P1.out
  clear hB B0 P0
  cases h1 : rightNm f.nm
  · go_wp2
    go_ret
    exact ⟨ret_bool (by unfold fieldR; rw [h1]; rfl), B1.out⟩
  · have H1 := Lib.hid h1
    clear h1
    go_wp2_with fail
    refine (RightType_any ae f.k f.o _ (HE.out.below B1.out)).mono ?_; rintro e w2 ⟨rfl, hB⟩
    have B2 := Lib.hid (B1.out.trans (hB.mono B1.out.size))
    have P2 := Lib.hid (P1.out.below hB P1.out.lt)
    clear hB B1 P1 p0 p1 p2 p3
    obtain ⟨p0, p1, p2, p3⟩ := P2.out
    cases h2 : Val.rightTy f.k f.o
    · go_wp2
      go_ret
      exact ⟨ret_bool (by unfold fieldR; rw [h2, H1.out]; rfl), B2.out⟩
    · have H2 := Lib.hid h2
      clear h2
      generalize hx : f.ix = X at *
      cases X
      · go_wp2
        go_ret
        exact ⟨ret_bool (by unfold fieldR; rw [H2.out, H1.out, hx]; rfl), B2.out⟩
      · have HX := Lib.hid hx
        clear hx
        go_wp2_with fail
        refine (isIndexable_any f.k _).mono ?_; rintro e w3 ⟨rfl, rfl⟩
        go_wp2
        go_ret
        exact ⟨ret_bool (by unfold fieldR; rw [H2.out, H1.out, HX.out]; simp), B2.out⟩
end Go.Proofs.YtmobnlofbopbeaaDoor.Cls
