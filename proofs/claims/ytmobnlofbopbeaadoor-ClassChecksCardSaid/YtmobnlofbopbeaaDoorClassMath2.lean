/- Layer 4: what is cut off is none; a class of raw numbers is right: plain mathematics. -/
import Derived.Test.YtmobnlofbopbeaaDoorClassMath
import Derived.Test.YtmobnlofbopbeaaDoorLaw4
namespace Go.Proofs.YtmobnlofbopbeaaDoor.Cls
open Val (bs bs_size bs_list bs_data bs_append data_len pickN pickN_lt)
open Wire (numB readN readT bytesAt)

/-- Under an error nothing is read. -/
theorem takeI_stuck (s : ByteArray) {st : Int × Int} (h : st.2 ≠ 0) : takeI s st = (0, st) := by unfold takeI; rw [if_pos h]
theorem takeT_stuck (s : ByteArray) {st : Int × Int} (h : st.2 ≠ 0) : takeT s st = (⟨#[]⟩, st) := by unfold takeT; rw [if_pos h]
theorem takeI_err {s : ByteArray} {st : Int × Int} (h : (takeI s st).2.2 = 0) : st.2 = 0 := Classical.byContradiction fun hn => by rw [takeI_stuck s hn] at h; exact hn h
theorem takeT_err {s : ByteArray} {st : Int × Int} (h : (takeT s st).2.2 = 0) : st.2 = 0 := Classical.byContradiction fun hn => by rw [takeT_stuck s hn] at h; exact hn h
theorem upT_ok {s : ByteArray} {m : Int} {st : Int × Int} (h : (upT s m st).2.2 = 0) : ¬ ((takeI s st).1 < 0 ∨ m < (takeI s st).1) ∧ (takeI s st).2.2 = 0 := by
  unfold upT at h
  split at h
  · cases h
  · rename_i hn; exact ⟨hn, h⟩
theorem upT_err {s : ByteArray} {m : Int} {st : Int × Int} (h : (upT s m st).2.2 = 0) : st.2 = 0 := takeI_err (upT_ok h).2
theorem fieldT_ok {s : ByteArray} {st : Int × Int} (h : (fieldT s st).2.2 = 0) : (upT s 1 (takeI s (takeI s (takeT s st).2).2).2).2.2 = 0 ∧ (takeI s (takeI s (takeT s st).2).2).2.2 = 0 ∧ (takeI s (takeT s st).2).2.2 = 0 ∧ (takeT s st).2.2 = 0 := by
  have h1 : (upT s 1 (takeI s (takeI s (takeT s st).2).2).2).2.2 = 0 := h
  exact ⟨h1, upT_err h1, takeI_err (upT_err h1), takeI_err (takeI_err (upT_err h1))⟩

/-- What was read without an error is read alike with more behind it. -/
theorem takeI_more (s t : ByteArray) {st : Int × Int} (h : (takeI s st).2.2 = 0) : takeI (s ++ t) st = takeI s st := by
  have h0 := takeI_err h
  unfold takeI at h ⊢
  rw [if_neg (by simp [h0])] at h ⊢
  rw [if_neg (by simp [h0])]
  cases hr : readN (bytesAt s st.1) with
  | none => rw [hr] at h; cases h
  | some r =>
    have hne : bytesAt s st.1 ≠ [] := fun h0 => by rw [h0, Wire.readN_nil] at hr; cases hr
    obtain ⟨u, hu⟩ := bytesAt_more s t st.1 hne
    rw [hu, readN_more hr u]
theorem takeT_more (s t : ByteArray) {st : Int × Int} (h : (takeT s st).2.2 = 0) : takeT (s ++ t) st = takeT s st := by
  have h0 := takeT_err h
  unfold takeT at h ⊢
  rw [if_neg (by simp [h0])] at h ⊢
  rw [if_neg (by simp [h0])]
  cases hr : readT s st.1 with
  | none => rw [hr] at h; cases h
  | some r => rw [readT_more s t st.1 r hr]
theorem upT_more (s t : ByteArray) {m : Int} {st : Int × Int} (h : (upT s m st).2.2 = 0) : upT (s ++ t) m st = upT s m st := by
  have := upT_ok h
  unfold upT
  rw [takeI_more s t this.2]
theorem fieldT_more (s t : ByteArray) {st : Int × Int} (h : (fieldT s st).2.2 = 0) : fieldT (s ++ t) st = fieldT s st := by
  obtain ⟨h1, h2, h3, h4⟩ := fieldT_ok h
  unfold fieldT typeT flagT
  rw [takeT_more s t h4, takeI_more s t h3, takeI_more s t h2, upT_more s t h1]
theorem fieldsT_more (s t : ByteArray) (st : Int × Int) : ∀ n, (fieldsT s n st).2.2 = 0 → fieldsT (s ++ t) n st = fieldsT s n st
  | 0, _ => rfl
  | n + 1, h => by
    have h1 : (fieldT s (fieldsT s n st).2).2.2 = 0 := h
    have ih := fieldsT_more s t st n (takeT_err (fieldT_ok h1).2.2.2)
    rw [fieldsT, fieldsT, ih, fieldT_more s t h1]
theorem fieldsT_err (s : ByteArray) (st : Int × Int) : ∀ n, (fieldsT s n st).2.2 = 0 → st.2 = 0
  | 0, h => h
  | n + 1, h => fieldsT_err s st n (takeT_err (fieldT_ok (show (fieldT s (fieldsT s n st).2).2.2 = 0 from h)).2.2.2)
theorem severalT_more (s t : ByteArray) {st : Int × Int} (h : (severalT s st).2.2 = 0) : severalT (s ++ t) st = severalT s st := by
  unfold severalT at h ⊢
  have h1 := fieldsT_err s _ _ h
  rw [upT_more s t h1, fieldsT_more s t _ _ h]
theorem severalT_err {s : ByteArray} {st : Int × Int} (h : (severalT s st).2.2 = 0) : st.2 = 0 := by
  unfold severalT at h
  exact upT_err (fieldsT_err s _ _ h)
theorem decC_more (s t : ByteArray) (a : Int) {r : Cl × Int} (h : decC s a = some r) : decC (s ++ t) a = some r := by
  unfold decC at h ⊢
  split at h
  · cases h
  · rename_i hn
    have h0 : (severalT s (takeT s (a, 0)).2).2.2 = 0 := Classical.byContradiction fun hc => hn (.inl hc)
    rw [takeT_more s t (severalT_err h0), severalT_more s t h0, if_neg hn]
    exact h

/-- The place stays within the text. -/
def InR (s : ByteArray) (st : Int × Int) : Prop := 0 ≤ st.1 ∧ st.1 ≤ s.size
theorem takeI_inR {s : ByteArray} {st : Int × Int} (h : InR s st) : InR s (takeI s st).2 := by
  unfold takeI
  split
  · exact h
  · cases hr : readN (bytesAt s st.1) with
    | none => exact ⟨Int.le_refl _, Int.natCast_nonneg _⟩
    | some r =>
      have hl := Wire.readN_len (n := r.1) (k := r.2) hr
      rcases bytesAt_len (s := s) h.1 with h1 | h1
      · exact ⟨by have := h.1; show 0 ≤ st.1 + (r.2 : Int); omega, by show st.1 + (r.2 : Int) ≤ _; omega⟩
      · rw [h1, Wire.readN_nil] at hr; cases hr
theorem takeT_inR {s : ByteArray} {st : Int × Int} (h : InR s st) : InR s (takeT s st).2 := by
  unfold takeT
  split
  · exact h
  · cases hr : readT s st.1 with
    | none => exact ⟨Int.le_refl _, Int.natCast_nonneg _⟩
    | some r =>
      unfold Wire.readT at hr
      cases hn : readN (bytesAt s st.1) with
      | none => rw [hn] at hr; cases hr
      | some q =>
        rw [hn] at hr
        simp only at hr
        split at hr
        · rename_i hq
          cases hr
          exact ⟨by have := h.1; show 0 ≤ st.1 + (q.2 : Int) + q.1; omega, hq.2.2⟩
        · cases hr
theorem upT_inR {s : ByteArray} {m : Int} {st : Int × Int} (h : InR s st) : InR s (upT s m st).2 := by
  unfold upT
  split
  · exact takeI_inR h
  · exact takeI_inR h
theorem fieldT_inR {s : ByteArray} {st : Int × Int} (h : InR s st) : InR s (fieldT s st).2 := upT_inR (takeI_inR (takeI_inR (takeT_inR h)))
theorem fieldsT_inR {s : ByteArray} {st : Int × Int} (h : InR s st) : ∀ n, InR s (fieldsT s n st).2
  | 0 => h
  | n + 1 => fieldT_inR (fieldsT_inR h n)
theorem decC_inR {s : ByteArray} {r : Cl × Int} (h : decC s 0 = some r) : r.2 ≤ s.size := by
  unfold decC at h
  split at h
  · cases h
  · cases h
    exact (fieldsT_inR (upT_inR (takeT_inR (s := s) (st := (0, 0)) ⟨Int.le_refl _, Int.natCast_nonneg _⟩)) _).2
/-- Bytes that are cut off are none. -/
theorem decC_cut {c : Cl} (hc : clsR c = true) (k : Nat) (hk : k < (encC c).length) : decC (bs ((encC c).take k)) 0 = none := by
  cases h : decC (bs ((encC c).take k)) 0 with
  | none => rfl
  | some r =>
    exfalso
    have h1 := decC_more _ (bs ((encC c).drop k)) 0 h
    rw [bs_append, List.take_append_drop] at h1
    have h2 := decC_full [] [] c hc
    simp only [List.nil_append, List.append_nil, List.length_nil, Int.natCast_zero] at h2
    rw [h2] at h1
    have h3 := decC_inR h
    rw [← Option.some.inj h1, bs_size, List.length_take] at h3
    simp only at h3
    omega
theorem encC_ne (c : Cl) : encC c ≠ [] := by
  unfold encC nmB
  intro h
  exact numB_ne _ (List.append_eq_nil_iff.1 (List.append_eq_nil_iff.1 h).1).1
theorem encC_len {c : Cl} (hc : clsR c = true) : (encC c).length ≤ 200000 := by
  obtain ⟨hn, h8, hfs⟩ := clsR_facts hc
  have hns := rightNm_size hn
  have h1 := nmB_len (s := c.nm) (by omega)
  have h2 := Wire.numB_len (c.l.length : Int)
  have h3 := encFds_len c.l (fun f hf => by
    obtain ⟨i, hi, rfl⟩ := List.getElem_of_mem hf
    have := fieldR_facts (hfs i _ (List.getElem?_eq_getElem hi)).2
    omega)
  unfold encC
  rw [List.length_append, List.length_append]
  omega

/-! A class of raw numbers is right. -/
theorem names_right : rightNm ⟨#[97]⟩ = true ∧ rightNm ⟨#[98, 50]⟩ = true ∧ rightNm ⟨#[110, 97, 109, 101]⟩ = true ∧ rightNm ⟨#[110, 101, 120, 116, 95, 111, 110, 101]⟩ = true ∧ rightNm ⟨#[107, 105, 100, 115]⟩ = true ∧ rightNm ⟨#[120]⟩ = true := ⟨by kernel_rfl, by kernel_rfl, by kernel_rfl, by kernel_rfl, by kernel_rfl, by kernel_rfl⟩
theorem classes_right : rightNm ⟨#[110, 111, 100, 101]⟩ = true ∧ rightNm ⟨#[105, 116, 101, 109]⟩ = true ∧ rightNm ⟨#[117, 115, 101, 114]⟩ = true ∧ rightNm ⟨#[112, 97, 103, 101, 95, 49]⟩ = true ∧ rightNm ⟨#[108, 101, 97, 102]⟩ = true ∧ rightNm ⟨#[113]⟩ = true := ⟨by kernel_rfl, by kernel_rfl, by kernel_rfl, by kernel_rfl, by kernel_rfl, by kernel_rfl⟩
theorem nameN_right (i : Nat) : rightNm (nameN i) = true := by
  obtain ⟨h0, h1, h2, h3, h4, h5⟩ := names_right
  unfold nameN
  split
  · exact h0
  · split
    · exact h1
    · split
      · exact h2
      · split
        · exact h3
        · split
          · exact h4
          · exact h5
theorem classN_right (i : Nat) : rightNm (classN i) = true := by
  obtain ⟨h0, h1, h2, h3, h4, h5⟩ := classes_right
  unfold classN
  split
  · exact h0
  · split
    · exact h1
    · split
      · exact h2
      · split
        · exact h3
        · split
          · exact h4
          · exact h5
theorem fieldOf_right (r : FRaw) : fieldR (fieldOf r) = true := by
  have hk := pickN_lt r.k (n := 5) (by decide)
  have ho := pickN_lt r.o (n := 4) (by decide)
  unfold fieldR fieldOf kindOf
  simp only [nameN_right, Bool.true_and]
  generalize pickN r.k 5 = K at *
  generalize pickN r.o 4 = O at *
  have hK : K = 0 ∨ K = 1 ∨ K = 2 ∨ K = 3 ∨ K = 4 := by omega
  have hO : O = 0 ∨ O = 1 ∨ O = 2 ∨ O = 3 := by omega
  rcases hK with rfl | rfl | rfl | rfl | rfl <;> rcases hO with rfl | rfl | rfl | rfl <;> cases r.ix <;> decide
theorem firstOf_append {α : Type} (p : α → Bool) : ∀ (l m : List α) (k : Nat), firstOf p (l ++ m) k = if firstOf p l k < 0 then firstOf p m (k + l.length) else firstOf p l k
  | [], m, k => by simp [firstOf]
  | x :: r, m, k => by
    rw [List.cons_append, firstOf, firstOf]
    split
    · rw [if_neg (by omega)]
    · rw [firstOf_append p r m (k + 1), List.length_cons, show k + 1 + r.length = k + (r.length + 1) by omega]
/-- Each field stands where its name first stands, and is right. -/
def Uniq (l : List Fd) : Prop := ∀ (i : Nat) (f : Fd), l[i]? = some f → fieldAt l f.nm = (i : Int) ∧ fieldR f = true
theorem uniq_add {l : List Fd} {f : Fd} (h : Uniq l) (hf : fieldR f = true) : Uniq (addF l f) := by
  unfold addF
  split
  · rename_i hn
    intro i g hg
    rcases Nat.lt_or_ge i l.length with hi | hi
    · rw [List.getElem?_append_left hi] at hg
      have h1 := h i g hg
      refine ⟨?_, h1.2⟩
      have h2 := h1.1
      unfold fieldAt at h2 ⊢
      rw [firstOf_append, if_neg (by omega), h2]
    · have hi2 : i = l.length := by
        have := (List.getElem?_eq_some_iff.1 hg).1
        simp at this; omega
      subst hi2
      simp at hg
      subst hg
      refine ⟨?_, hf⟩
      unfold fieldAt at hn ⊢
      rw [firstOf_append, if_pos hn, firstOf, show isNm f.nm f = true from beq_self_eq_true _]
      simp
  · exact h
theorem uniq_fields (rs : List FRaw) : ∀ k, Uniq (fieldsK rs k)
  | 0 => fun i f h => by simp [fieldsK] at h
  | k + 1 => by
    cases h : rs[k]? with
    | none =>
      have : fieldsK rs (k + 1) = fieldsK rs k := by unfold fieldsK; rw [List.take_add_one, h]; simp
      rw [this]; exact uniq_fields rs k
    | some r => rw [fieldsK_succ h]; exact uniq_add (uniq_fields rs k) (fieldOf_right r)
theorem classOf_right (x : Raw4) : clsR (classOf x) = true := by
  unfold clsR classOf
  simp only [classN_right, Bool.true_and]
  rw [decide_eq_true (by have := fieldsK_len x.l 6; omega), Bool.true_and, allOk_iff]
  intro i f hf
  have := uniq_fields x.l 6 i f hf
  unfold okAt
  rw [this.1, this.2, Nat.zero_add]
  simp
end Go.Proofs.YtmobnlofbopbeaaDoor.Cls
