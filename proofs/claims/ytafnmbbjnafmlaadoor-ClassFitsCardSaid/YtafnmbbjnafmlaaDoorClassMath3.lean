/- Layer 4: what a right class becomes by one turn of a field. -/
import Derived.Test.YtafnmbbjnafmlaaDoorClassMath2
namespace Go.Proofs.YtafnmbbjnafmlaaDoor.Cls
open Val (bs bs_size bs_list bs_data bs_append data_len pickN pickN_lt)

theorem isNm_iff {f : Fd} {nm : ByteArray} : isNm nm f = true ↔ f.nm = nm := by
  unfold isNm
  rw [beq_iff_eq]
  exact ⟨Kit.bytes_inj, fun h => by rw [h]⟩
/-- No two fields have one name. -/
def Apart (l : List Fd) : Prop := ∀ (i j : Nat) (f g : Fd), l[i]? = some f → l[j]? = some g → f.nm = g.nm → i = j
theorem fieldAt_apart {l : List Fd} (h : Apart l) {i : Nat} {f : Fd} (hf : l[i]? = some f) : fieldAt l f.nm = (i : Int) := by
  have hi : i < l.length := (List.getElem?_eq_some_iff.1 hf).1
  unfold fieldAt
  rw [firstOf_at (isNm f.nm) l 0 i (by omega) (fun j g hj hg => by
    cases hb : isNm f.nm g
    · rfl
    · have := h j i g f hg hf (isNm_iff.1 hb)
      omega), List.drop_eq_getElem_cons hi, firstOf, (List.getElem?_eq_some_iff.1 hf).2, isNm_iff.2 rfl]
  simp
theorem apart_of {l : List Fd} (h : ∀ (i : Nat) (f : Fd), l[i]? = some f → fieldAt l f.nm = (i : Int)) : Apart l := fun i j f g hf hg he => by
  have h1 := h i f hf
  have h2 := h j g hg
  rw [he] at h1
  omega
theorem clsR_iff (c : Cl) : clsR c = true ↔ rightNm c.nm = true ∧ c.l.length ≤ 8 ∧ (∀ (i : Nat) (f : Fd), c.l[i]? = some f → fieldR f = true) ∧ Apart c.l := by
  unfold clsR
  rw [Bool.and_eq_true, Bool.and_eq_true, decide_eq_true_iff, allOk_iff]
  constructor
  · rintro ⟨h1, h2, h3⟩
    have h4 : ∀ (i : Nat) (f : Fd), c.l[i]? = some f → fieldAt c.l f.nm = (i : Int) ∧ fieldR f = true := fun i f hf => by
      have := h3 i f hf
      unfold okAt at this
      rw [Bool.and_eq_true, beq_iff_eq] at this
      exact ⟨by simpa using this.1, this.2⟩
    exact ⟨h1, h2, fun i f hf => (h4 i f hf).2, apart_of fun i f hf => (h4 i f hf).1⟩
  · rintro ⟨h1, h2, h3, h4⟩
    refine ⟨h1, h2, fun i f hf => ?_⟩
    unfold okAt
    rw [Bool.and_eq_true, beq_iff_eq]
    exact ⟨by rw [fieldAt_apart h4 hf]; simp, h3 i f hf⟩
theorem clsR_false {c : Cl} (h : ¬ (rightNm c.nm = true ∧ c.l.length ≤ 8 ∧ (∀ (i : Nat) (f : Fd), c.l[i]? = some f → fieldR f = true) ∧ Apart c.l)) : clsR c = false := by
  cases hc : clsR c
  · rfl
  · exact absurd ((clsR_iff c).1 hc) h

/-- A field twice. -/
theorem once_twice {c : Cl} {k : Nat} {f g : Fd} (hk : c.l[k]? = some f) (hg : g.nm = f.nm) : clsR ⟨c.nm, c.l ++ [g]⟩ = false := by
  have hlt : k < c.l.length := (List.getElem?_eq_some_iff.1 hk).1
  refine clsR_false fun ⟨_, _, _, h⟩ => ?_
  have := h k c.l.length f g (by rw [List.getElem?_append_left hlt]; exact hk) (by rw [List.getElem?_append_right (Nat.le_refl _)]; simp) hg.symm
  omega
theorem set_at {l : List Fd} {k i : Nat} {g x : Fd} (h : (l.set k g)[i]? = some x) : (i = k ∧ x = g) ∨ (i ≠ k ∧ l[i]? = some x) := by
  rw [List.getElem?_set] at h
  split at h
  · split at h
    · cases h; left; exact ⟨by omega, rfl⟩
    · cases h
  · right; exact ⟨by omega, h⟩
theorem met_iff {l : List Fd} {nm : ByteArray} : fieldAt l nm < 0 ↔ ∀ (i : Nat) (f : Fd), l[i]? = some f → f.nm ≠ nm := by
  constructor
  · intro h i f hf he
    have := (fieldAt_self hf).1
    rw [he] at this
    omega
  · intro h
    unfold fieldAt
    rw [firstOf_at (isNm nm) l 0 l.length (Nat.le_refl _) fun i g _ hg => by
      cases hb : isNm nm g
      · rfl
      · exact absurd (isNm_iff.1 hb) (h i g hg), List.drop_eq_nil_of_le (Nat.le_refl _), firstOf]
    omega
/-- A field of another name. -/
theorem once_odd {c : Cl} (hc : clsR c = true) {k : Nat} {f g : Fd} (hk : c.l[k]? = some f) (hne : g.nm ≠ f.nm) (h1 : g.k = f.k) (h2 : g.o = f.o) (h3 : g.ix = f.ix) :
    clsR ⟨c.nm, c.l.set k g⟩ = (rightNm g.nm && decide (fieldAt c.l g.nm < 0)) := by
  obtain ⟨r1, r2, r3, r4⟩ := (clsR_iff c).1 hc
  have hlt : k < c.l.length := (List.getElem?_eq_some_iff.1 hk).1
  have hg : (c.l.set k g)[k]? = some g := by simp [hlt]
  have hf := r3 k f hk
  have hfr : fieldR g = rightNm g.nm := by
    unfold fieldR at hf ⊢
    rw [h1, h2, h3]
    rw [Bool.and_eq_true] at hf
    rw [hf.2, Bool.and_true]
  cases hn : rightNm g.nm
  · rw [Bool.false_and]
    exact clsR_false fun ⟨_, _, h, _⟩ => by have := h k g hg; rw [hfr, hn] at this; cases this
  · rw [Bool.true_and]
    by_cases hm : fieldAt c.l g.nm < 0
    · rw [decide_eq_true hm]
      refine (clsR_iff _).2 ⟨r1, by simpa using r2, fun i x hx => ?_, fun i j x y hx hy he => ?_⟩
      · rcases set_at hx with ⟨rfl, rfl⟩ | ⟨_, h⟩
        · rw [hfr, hn]
        · exact r3 i x h
      · rcases set_at hx with ⟨rfl, rfl⟩ | ⟨_, h⟩ <;> rcases set_at hy with ⟨rfl, rfl⟩ | ⟨_, h'⟩
        · rfl
        · exact absurd he.symm (met_iff.1 hm _ _ h')
        · exact absurd he (met_iff.1 hm _ _ h)
        · exact r4 i j x y h h' he
    · rw [decide_eq_false hm]
      refine clsR_false fun ⟨_, _, _, h⟩ => hm (met_iff.2 fun i x hx he => ?_)
      by_cases hik : i = k
      · subst hik; rw [hk] at hx; cases hx; exact hne he.symm
      · have := h i k x g (by rw [List.getElem?_set_ne (by omega)]; exact hx) hg he
        omega
/-- A field of another type. -/
theorem once_flat {c : Cl} (hc : clsR c = true) {k : Nat} {f g : Fd} (hk : c.l[k]? = some f) (hn : g.nm = f.nm) : clsR ⟨c.nm, c.l.set k g⟩ = fieldR g := by
  obtain ⟨r1, r2, r3, r4⟩ := (clsR_iff c).1 hc
  have hlt : k < c.l.length := (List.getElem?_eq_some_iff.1 hk).1
  have hg : (c.l.set k g)[k]? = some g := by simp [hlt]
  cases hr : fieldR g
  · exact clsR_false fun ⟨_, _, h, _⟩ => by have := h k g hg; rw [hr] at this; cases this
  · refine (clsR_iff _).2 ⟨r1, by simpa using r2, fun i x hx => ?_, fun i j x y hx hy he => ?_⟩
    · rcases set_at hx with ⟨rfl, rfl⟩ | ⟨_, h⟩
      · exact hr
      · exact r3 i x h
    · rcases set_at hx with ⟨rfl, rfl⟩ | ⟨_, h⟩ <;> rcases set_at hy with ⟨rfl, rfl⟩ | ⟨_, h'⟩
      · rfl
      · exact r4 _ _ _ _ hk h' (hn.symm.trans he)
      · exact r4 _ _ _ _ h hk (he.trans hn)
      · exact r4 i j x y h h' he

theorem nameN_six (i : Nat) : ∃ j, j < 6 ∧ nameN i = nameN j := by
  rcases Nat.lt_or_ge i 6 with h | h
  · exact ⟨i, h, rfl⟩
  · exact ⟨5, by omega, by unfold nameN; rw [if_neg (by omega), if_neg (by omega), if_neg (by omega), if_neg (by omega), if_neg (by omega)]; rfl⟩
theorem fieldsK_names (rs : List FRaw) : ∀ (k : Nat) (f : Fd), f ∈ fieldsK rs k → ∃ j, j < 6 ∧ f.nm = nameN j
  | 0, f, h => by simp [fieldsK] at h
  | k + 1, f, h => by
    cases hr : rs[k]? with
    | none =>
      have : fieldsK rs (k + 1) = fieldsK rs k := by unfold fieldsK; rw [List.take_add_one, hr]; simp
      rw [this] at h
      exact fieldsK_names rs k f h
    | some r =>
      rw [fieldsK_succ hr] at h
      unfold addF at h
      split at h
      · rcases List.mem_append.1 h with h | h
        · exact fieldsK_names rs k f h
        · simp only [List.mem_singleton] at h
          subst h
          exact nameN_six _
      · exact fieldsK_names rs k f h
/-- Is a byte one that a name may have behind its first one? -/
def nameByte (b : Nat) : Bool := (decide (97 ≤ b) && decide (b ≤ 122)) || ((decide (48 ≤ b) && decide (b ≤ 57)) || b == 95)
theorem ext_all : ((List.range 6).all fun i => (List.range 256).all fun b => rightNm (nameN i ++ ⟨#[UInt8.ofNat b]⟩) == nameByte b) = true := by kernel_rfl
theorem ext_right {j : Nat} (hj : j < 6) (b : UInt8) : rightNm (nameN j ++ ⟨#[b]⟩) = nameByte b.toNat := by
  have h := List.all_eq_true.1 (List.all_eq_true.1 ext_all j (List.mem_range.2 hj)) b.toNat (List.mem_range.2 b.toNat_lt)
  rw [beq_iff_eq] at h
  rw [← h, UInt8.ofNat_toNat]
theorem more_ne (s : ByteArray) (b : UInt8) : s ++ ⟨#[b]⟩ ≠ s := fun h => by
  have := congrArg ByteArray.size h
  rw [ByteArray.size_append] at this
  have h1 : (ByteArray.mk #[b]).size = 1 := rfl
  omega
end Go.Proofs.YtafnmbbjnafmlaaDoor.Cls
