/- Layer 4: right classes; the same classes; what fits a class. -/
import Derived.Test.YtmobnlofbopbeaaDoorClass3
namespace Go.Proofs.YtmobnlofbopbeaaDoor.Cls
open Go.RowKit
open Kit (ret_int ret_bool Moved)
open Val (Env flat bs Vl Rep RepL)

attribute [local go_sem] Oper.semAt_some

theorem firstOf_le {α : Type} (p : α → Bool) : ∀ (l : List α) (k i : Nat) (x : α), l[i]? = some x → p x = true → (k : Int) ≤ firstOf p l k ∧ firstOf p l k ≤ (k : Int) + (i : Int)
  | [], _, _, _, h, _ => by simp at h
  | y :: r, k, 0, x, h, hp => by
    simp only [List.getElem?_cons_zero, Option.some.injEq] at h
    subst h
    rw [firstOf, hp]
    simp
  | y :: r, k, i + 1, x, h, hp => by
    rw [firstOf]
    split
    · exact ⟨by omega, by omega⟩
    · have := firstOf_le p r (k + 1) i x (by simpa using h) hp
      omega
theorem fieldAt_self {l : List Fd} {i : Nat} {x : Fd} (h : l[i]? = some x) : 0 ≤ fieldAt l x.nm ∧ fieldAt l x.nm ≤ (i : Int) := by
  have := firstOf_le (isNm x.nm) l 0 i x h (by unfold isNm; exact beq_self_eq_true _)
  unfold fieldAt
  omega
theorem fieldV_self {l : List Fd} {i : Nat} {x : Fd} (h : l[i]? = some x) : fieldV l x.nm = .tuple #[.int .i64 (fieldAt l x.nm), .bool true] := by
  unfold fieldV
  rw [if_neg (by have := fieldAt_self h; omega)]

/-- Is the i-th field one that may be there? -/
def okAt (l : List Fd) (i : Nat) (f : Fd) : Bool := fieldAt l f.nm == (i : Int) && fieldR f
def allOk (l0 : List Fd) : List Fd → Nat → Bool
  | [], _ => true
  | f :: r, k => okAt l0 k f && allOk l0 r (k + 1)
theorem allOk_iff (l0 : List Fd) : ∀ (l : List Fd) (k : Nat), allOk l0 l k = true ↔ ∀ i f, l[i]? = some f → okAt l0 (k + i) f = true
  | [], _ => by simp [allOk]
  | f :: r, k => by
    rw [allOk, Bool.and_eq_true, allOk_iff l0 r (k + 1)]
    constructor
    · rintro ⟨h1, h2⟩ i g hg
      cases i with
      | zero => simp only [List.getElem?_cons_zero, Option.some.injEq] at hg; subst hg; exact h1
      | succ i => rw [show k + (i + 1) = k + 1 + i by omega]; exact h2 i g (by simpa using hg)
    · intro h
      exact ⟨h 0 f rfl, fun i g hg => by rw [show k + 1 + i = k + (i + 1) by omega]; exact h (i + 1) g (by simpa using hg)⟩
theorem allOk_not {l : List Fd} {i : Nat} {f : Fd} (h : l[i]? = some f) (hn : okAt l i f = false) : allOk l l 0 = false := by
  cases ha : allOk l l 0
  · rfl
  · have := (allOk_iff l l 0).1 ha i f h
    rw [Nat.zero_add, hn] at this
    cases this
/-- Is a class right? -/
def clsR (c : Cl) : Bool := rightNm c.nm && (decide (c.l.length ≤ 8) && allOk c.l c.l 0)

set_option maxRecDepth 100000 in
set_option maxHeartbeats 2000000 in
theorem right_cl (ae : Addr) (c : Cl) (B : Nat) (w : World) (lv : Value) (hB : B ≤ w.heap.size) (hE : Env ae w) (hr : FdL B w c.l lv) :
    Calls Tryd.prog 15 #[.agg #[.string c.nm, lv]] w fun e w' => e = .returned (.bool (clsR c)) ∧ Below w.heap.size w w' := by
  obtain ⟨a1, c1, rfl, z1⟩ := hr.len
  unfold maxLen at z1
  have B0 := Lib.hid (Kit.below_alloc w (.cells #[.string c.nm, .slice a1 c.l.length c1] 27))
  have P0 := Lib.hid (And.intro (Kit.cell_new w #[.string c.nm, .slice a1 c.l.length c1] 27 0 rfl) (Kit.cell_new w #[.string c.nm, .slice a1 c.l.length c1] 27 1 rfl))
  have HE := Lib.hid (And.intro hE (And.intro hr hB))
  clear hE hr
  go_enter Tryd.func15, Tryd.ntmps15
  go_wp2_with fail
  refine (rightName_any c.nm _).mono ?_; rintro e w1 ⟨rfl, hB1⟩
  have B1 := Lib.hid (B0.out.trans (hB1.mono B0.out.size))
  have P1 := Lib.hid (And.intro ((hB1.cell (p := ⟨w.heap.size, 0, none⟩) (Kit.lt_of_cell P0.out.1)).trans P0.out.1) ((hB1.cell (p := ⟨w.heap.size, 1, none⟩) (Kit.lt_of_cell P0.out.2)).trans P0.out.2))
  clear hB1 B0 P0
  obtain ⟨p0, p1⟩ := P1.out
  cases h1 : rightNm c.nm
  · go_wp2
    go_ret
    exact ⟨ret_bool (by unfold clsR; rw [h1]; rfl), B1.out⟩
  · have H1 := Lib.hid h1
    clear h1
    by_cases h8 : c.l.length ≤ 8
    · have h8i : ¬ (8 : Int) < (c.l.length : Int) := by omega
      have HC := Lib.hid (show clsR c = allOk c.l c.l 0 by unfold clsR; rw [H1.out, decide_eq_true h8]; rfl)
      have hz1 : w.heap.size < w1.heap.size := Kit.lt_of_cell P1.out.1
      go_wp2
      go_loopw [3, 4, 5, 6, 20] (fun _ _ _ _ j wr => ∃ k : Nat, k ≤ c.l.length ∧ j = .int .i64 k ∧ Below w1.heap.size w1 wr ∧ ∀ i y, i < k → c.l[i]? = some y → okAt c.l i y = true) (fun _ _ _ _ j _ => c.l.length - (intOf j).toNat)
      case atStart => exact ⟨0, by omega, rfl, Below.refl _ _, by omega⟩
      case round =>
        obtain ⟨k, hk, rfl, hBr, hz⟩ := hrel
        have HZ := Lib.hid hz; clear hz p0 p1
        have hsz := hBr.size
        have hBW := B1.out.trans (hBr.mono B1.out.size)
        by_cases hlt : k < c.l.length
        · obtain ⟨y, hy⟩ : ∃ y, c.l[k]? = some y := ⟨_, List.getElem?_eq_getElem (by omega)⟩
          obtain ⟨b1, o1, d1, e1, hb1, q0, q1, q2, q3⟩ := (HE.out.2.1.below hBW HE.out.2.2).at hy
          cases e1
          have i1 : (0 : Int) ≤ (k : Int) := by omega
          have i2 : (k : Int) < (c.l.length : Int) := by omega
          have u0 := Kit.cell_kept (.cells #[.string y.nm, .int .i64 y.k, .int .i64 y.o, .bool y.ix] 46) ((hBr.cell (p := ⟨w.heap.size, 0, none⟩) hz1).trans P1.out.1)
          have u1 := Kit.cell_kept (.cells #[.string y.nm, .int .i64 y.k, .int .i64 y.o, .bool y.ix] 46) ((hBr.cell (p := ⟨w.heap.size, 1, none⟩) hz1).trans P1.out.2)
          have U := Lib.hid (And.intro u0 u1)
          have HY := Lib.hid hy
          have HS := Lib.hid (fieldV_self hy)
          have HF := fieldAt_self hy
          have B2 := Lib.hid (hBW.trans ((Kit.below_alloc wr (.cells #[.string y.nm, .int .i64 y.k, .int .i64 y.o, .bool y.ix] 46)).mono hBW.size))
          have F2 := Lib.hid (Kit.box4_new wr (.string y.nm) (.int .i64 y.k) (.int .i64 y.o) (.bool y.ix) 46)
          have hBk : B ≤ (wr.alloc (.cells #[.string y.nm, .int .i64 y.k, .int .i64 y.o, .bool y.ix] 46)).heap.size := by have := B2.out.size; have := HE.out.2.2; omega
          have HFc := Lib.hid (field_any c y.nm B _ _ hBk (HE.out.2.1.below B2.out HE.out.2.2))
          clear hy
          go_wp2_with fail
          refine HFc.out.mono ?_; rintro e w2 ⟨rfl, hB3⟩
          rw [HS.out]
          have B3 := Lib.hid (B2.out.trans (hB3.mono B2.out.size))
          have F3 := Lib.hid (F2.out.below hB3 F2.out.lt)
          have B13 := Lib.hid (hBr.trans (((Kit.below_alloc wr (.cells #[.string y.nm, .int .i64 y.k, .int .i64 y.o, .bool y.ix] 46)).mono hsz).trans (hB3.mono (by simp; omega))))
          clear hB3 HFc hBk F2 B2 u0 u1 U q0 q1 q2 q3
          obtain ⟨q0, q1, q2, q3⟩ := F3.out
          by_cases hF : fieldAt c.l y.nm = (k : Int)
          · have hFb : (fieldAt c.l y.nm != (k : Int)) = false := by simp [hF]
            go_wp2_with fail
            refine (rightField_any ae y _ (HE.out.1.below B3.out)).mono ?_; rintro e w3 ⟨rfl, hB4⟩
            have B4 := Lib.hid (B3.out.trans (hB4.mono B3.out.size))
            cases hc : fieldR y
            · have HN := Lib.hid (allOk_not HY.out (by unfold okAt; rw [hc, Bool.and_false]))
              clear hc
              go_wp2
              go_ret
              exact ⟨ret_bool (by rw [HC.out, HN.out]), B4.out⟩
            · have HK := Lib.hid (show okAt c.l k y = true by unfold okAt; rw [hc, hF]; simp)
              clear hc
              go_wp2
              go_roundw
              case rel =>
                refine ⟨k + 1, by omega, by go_num, B13.out.trans (hB4.mono B13.out.size), fun i a hi ha => ?_⟩
                rcases Nat.lt_or_ge i k with h | h
                · exact HZ.out i a h ha
                · obtain rfl : i = k := by omega
                  rw [HY.out] at ha; cases ha
                  exact HK.out
              case measure => simp [intOf]; omega
          · have hFb : (fieldAt c.l y.nm != (k : Int)) = true := by simpa using hF
            have HN := Lib.hid (allOk_not HY.out (by unfold okAt; rw [show (fieldAt c.l y.nm == (k : Int)) = false from beq_eq_false_iff_ne.2 hF]; rfl))
            clear hF
            go_wp2
            go_ret
            exact ⟨ret_bool (by rw [HC.out, HN.out]), B3.out⟩
        · have hkl : k = c.l.length := by omega
          subst hkl
          have HN := Lib.hid ((allOk_iff c.l c.l 0).2 (fun i f hf => by rw [Nat.zero_add]; exact HZ.out i f (List.getElem?_eq_some_iff.1 hf).1 hf))
          go_wp2
          go_ret
          exact ⟨ret_bool (by rw [HC.out, HN.out]), hBW⟩
    · have h8i : (8 : Int) < (c.l.length : Int) := by omega
      have HC := Lib.hid (show clsR c = false by unfold clsR; rw [decide_eq_false h8]; simp)
      clear h8
      go_wp2
      go_ret
      exact ⟨ret_bool HC.out.symm, B1.out⟩
end Go.Proofs.YtmobnlofbopbeaaDoor.Cls
