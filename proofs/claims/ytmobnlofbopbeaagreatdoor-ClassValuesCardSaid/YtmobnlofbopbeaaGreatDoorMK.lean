/- Layer 4: what a right class becomes by one turn of a field. -/
import Derived.Test.YtmobnlofbopbeaaGreatDoorMI
import Derived.Test.YtmobnlofbopbeaaGreatDoorLaw4Ex
import Derived.Test.YtmobnlofbopbeaaGreatDoorMJ
namespace Go.Proofs.YtmobnlofbopbeaaGreatDoor.Cls
open Val (bs bs_size bs_list bs_data bs_append data_len pickN pickN_lt)

theorem isNm_iff {f : Fd} {nm : ByteArray} : isNm nm f = true ↔ f.nm = nm := by
  unfold isNm
  rw [beq_iff_eq]
  exact ⟨Kit.bytes_inj, fun h => by rw [h]⟩
/-- No two fields have one name. -/
def Apart (l : List Fd) : Prop := ∀ (i j : Nat) (f g : Fd), l[i]? = some f → l[j]? = some g → f.nm = g.nm → i = j
theorem fieldAt_apart {l : List Fd} (h : Apart l) {i : Nat} {f : Fd} (hf : l[i]? = some f) : fieldAt l f.nm = (i : Int) := by
  have hi : i < l.length := (List.getElem?_eq_some_iff.1 hf).1
  unfold fieldAt
  rw [firstOf_at (isNm f.nm) l 0 i (by omega) (fun j g hj hg => by
    cases hb : isNm f.nm g
    · rfl
    · have := h j i g f hg hf (isNm_iff.1 hb)
      omega), List.drop_eq_getElem_cons hi, firstOf, (List.getElem?_eq_some_iff.1 hf).2, isNm_iff.2 rfl]
  simp
theorem apart_of {l : List Fd} (h : ∀ (i : Nat) (f : Fd), l[i]? = some f → fieldAt l f.nm = (i : Int)) : Apart l := fun i j f g hf hg he => by
  have h1 := h i f hf
  have h2 := h j g hg
  rw [he] at h1
  omega
theorem clsR_iff (c : Cl) : clsR c = true ↔ rightNm c.nm = true ∧ c.l.length ≤ 8 ∧ (∀ (i : Nat) (f : Fd), c.l[i]? = some f → fieldR f = true) ∧ Apart c.l := by
  unfold clsR
  rw [Bool.and_eq_true, Bool.and_eq_true, decide_eq_true_iff, allOk_iff]
  constructor
  · rintro ⟨h1, h2, h3⟩
    have h4 : ∀ (i : Nat) (f : Fd), c.l[i]? = some f → fieldAt c.l f.nm = (i : Int) ∧ fieldR f = true := fun i f hf => by
      have := h3 i f hf
      unfold okAt at this
      rw [Bool.and_eq_true, beq_iff_eq] at this
      exact ⟨by simpa using this.1, this.2⟩
    exact ⟨h1, h2, fun i f hf => (h4 i f hf).2, apart_of fun i f hf => (h4 i f hf).1⟩
  · rintro ⟨h1, h2, h3, h4⟩
    refine ⟨h1, h2, fun i f hf => ?_⟩
    unfold okAt
    rw [Bool.and_eq_true, beq_iff_eq]
    exact ⟨by rw [fieldAt_apart h4 hf]; simp, h3 i f hf⟩
theorem clsR_false {c : Cl} (h : ¬ (rightNm c.nm = true ∧ c.l.length ≤ 8 ∧ (∀ (i : Nat) (f : Fd), c.l[i]? = some f → fieldR f = true) ∧ Apart c.l)) : clsR c = false := by
  cases hc : clsR c
  · rfl
  · exact absurd ((clsR_iff c).1 hc) h

/-- A field twice. -/
theorem once_twice {c : Cl} {k : Nat} {f g : Fd} (hk : c.l[k]? = some f) (hg : g.nm = f.nm) : clsR ⟨c.nm, c.l ++ [g]⟩ = false := by
  have hlt : k < c.l.length := (List.getElem?_eq_some_iff.1 hk).1
  refine clsR_false fun ⟨_, _, _, h⟩ => ?_
  have := h k c.l.length f g (by rw [List.getElem?_append_left hlt]; exact hk) (by rw [List.getElem?_append_right (Nat.le_refl _)]; simp) hg.symm
  omega
theorem set_at {l : List Fd} {k i : Nat} {g x : Fd} (h : (l.set k g)[i]? = some x) : (i = k ∧ x = g) ∨ (i ≠ k ∧ l[i]? = some x) := by
  rw [List.getElem?_set] at h
  split at h
  · split at h
    · cases h; left; exact ⟨by omega, rfl⟩
    · cases h
  · right; exact ⟨by omega, h⟩
theorem met_iff {l : List Fd} {nm : ByteArray} : fieldAt l nm < 0 ↔ ∀ (i : Nat) (f : Fd), l[i]? = some f → f.nm ≠ nm := by
  constructor
  · intro h i f hf he
    have := (fieldAt_self hf).1
    rw [he] at this
    omega
  · intro h
    unfold fieldAt
    rw [firstOf_at (isNm nm) l 0 l.length (Nat.le_refl _) fun i g _ hg => by
      cases hb : isNm nm g
      · rfl
      · exact absurd (isNm_iff.1 hb) (h i g hg), List.drop_eq_nil_of_le (Nat.le_refl _), firstOf]
    omega
/-- A field of another name. -/
theorem once_odd {c : Cl} (hc : clsR c = true) {k : Nat} {f g : Fd} (hk : c.l[k]? = some f) (hne : g.nm ≠ f.nm) (h1 : g.k = f.k) (h2 : g.o = f.o) (h3 : g.ix = f.ix) :
    clsR ⟨c.nm, c.l.set k g⟩ = (rightNm g.nm && decide (fieldAt c.l g.nm < 0)) := by
  obtain ⟨r1, r2, r3, r4⟩ := (clsR_iff c).1 hc
  have hlt : k < c.l.length := (List.getElem?_eq_some_iff.1 hk).1
  have hg : (c.l.set k g)[k]? = some g := by simp [hlt]
  have hf := r3 k f hk
  have hfr : fieldR g = rightNm g.nm := by
    unfold fieldR at hf ⊢
    rw [h1, h2, h3]
    rw [Bool.and_eq_true] at hf
    rw [hf.2, Bool.and_true]
  cases hn : rightNm g.nm
  · rw [Bool.false_and]
    exact clsR_false fun ⟨_, _, h, _⟩ => by have := h k g hg; rw [hfr, hn] at this; cases this
  · rw [Bool.true_and]
    by_cases hm : fieldAt c.l g.nm < 0
    · rw [decide_eq_true hm]
      refine (clsR_iff _).2 ⟨r1, by simpa using r2, fun i x hx => ?_, fun i j x y hx hy he => ?_⟩
      · rcases set_at hx with ⟨rfl, rfl⟩ | ⟨_, h⟩
        · rw [hfr, hn]
        · exact r3 i x h
      · rcases set_at hx with ⟨rfl, rfl⟩ | ⟨_, h⟩ <;> rcases set_at hy with ⟨rfl, rfl⟩ | ⟨_, h'⟩
        · rfl
        · exact absurd he.symm (met_iff.1 hm _ _ h')
        · exact absurd he (met_iff.1 hm _ _ h)
        · exact r4 i j x y h h' he
    · rw [decide_eq_false hm]
      refine clsR_false fun ⟨_, _, _, h⟩ => hm (met_iff.2 fun i x hx he => ?_)
      by_cases hik : i = k
      · subst hik; rw [hk] at hx; cases hx; exact hne he.symm
      · have := h i k x g (by rw [List.getElem?_set_ne (by omega)]; exact hx) hg he
        omega
/-- A field of another type. -/
theorem once_flat {c : Cl} (hc : clsR c = true) {k : Nat} {f g : Fd} (hk : c.l[k]? = some f) (hn : g.nm = f.nm) : clsR ⟨c.nm, c.l.set k g⟩ = fieldR g := by
  obtain ⟨r1, r2, r3, r4⟩ := (clsR_iff c).1 hc
  have hlt : k < c.l.length := (List.getElem?_eq_some_iff.1 hk).1
  have hg : (c.l.set k g)[k]? = some g := by simp [hlt]
  cases hr : fieldR g
  · exact clsR_false fun ⟨_, _, h, _⟩ => by have := h k g hg; rw [hr] at this; cases this
  · refine (clsR_iff _).2 ⟨r1, by simpa using r2, fun i x hx => ?_, fun i j x y hx hy he => ?_⟩
    · rcases set_at hx with ⟨rfl, rfl⟩ | ⟨_, h⟩
      · exact hr
      · exact r3 i x h
    · rcases set_at hx with ⟨rfl, rfl⟩ | ⟨_, h⟩ <;> rcases set_at hy with ⟨rfl, rfl⟩ | ⟨_, h'⟩
      · rfl
      · exact r4 _ _ _ _ hk h' (hn.symm.trans he)
      · exact r4 _ _ _ _ h hk (he.trans hn)
      · exact r4 i j x y h h' he

theorem nameN_six (i : Nat) : ∃ j, j < 6 ∧ nameN i = nameN j := by
  rcases Nat.lt_or_ge i 6 with h | h
  · exact ⟨i, h, rfl⟩
  · exact ⟨5, by omega, by unfold nameN; rw [if_neg (by omega), if_neg (by omega), if_neg (by omega), if_neg (by omega), if_neg (by omega)]; rfl⟩
theorem fieldsK_names (rs : List FRaw) : ∀ (k : Nat) (f : Fd), f ∈ fieldsK rs k → ∃ j, j < 6 ∧ f.nm = nameN j
  | 0, f, h => by simp [fieldsK] at h
  | k + 1, f, h => by
    cases hr : rs[k]? with
    | none =>
      have : fieldsK rs (k + 1) = fieldsK rs k := by unfold fieldsK; rw [List.take_add_one, hr]; simp
      rw [this] at h
      exact fieldsK_names rs k f h
    | some r =>
      rw [fieldsK_succ hr] at h
      unfold addF at h
      split at h
      · rcases List.mem_append.1 h with h | h
        · exact fieldsK_names rs k f h
        · simp only [List.mem_singleton] at h
          subst h
          exact nameN_six _
      · exact fieldsK_names rs k f h
/-- Is a byte one that a name may have behind its first one? -/
def nameByte (b : Nat) : Bool := (decide (97 ≤ b) && decide (b ≤ 122)) || ((decide (48 ≤ b) && decide (b ≤ 57)) || b == 95)
theorem ext_all : ((List.range 6).all fun i => (List.range 256).all fun b => rightNm (nameN i ++ ⟨#[UInt8.ofNat b]⟩) == nameByte b) = true := by kernel_rfl
theorem ext_right {j : Nat} (hj : j < 6) (b : UInt8) : rightNm (nameN j ++ ⟨#[b]⟩) = nameByte b.toNat := by
  have h := List.all_eq_true.1 (List.all_eq_true.1 ext_all j (List.mem_range.2 hj)) b.toNat (List.mem_range.2 b.toNat_lt)
  rw [beq_iff_eq] at h
  rw [← h, UInt8.ofNat_toNat]
theorem more_ne (s : ByteArray) (b : UInt8) : s ++ ⟨#[b]⟩ ≠ s := fun h => by
  have := congrArg ByteArray.size h
  rw [ByteArray.size_append] at this
  have h1 : (ByteArray.mk #[b]).size = 1 := rfl
  omega
end Go.Proofs.YtmobnlofbopbeaaGreatDoor.Cls
/- Layer 4's laws: classes at a place, and copies of them. -/
namespace Go.Proofs.YtmobnlofbopbeaaGreatDoor.Cls
open Go.RowKit
open Kit (ret_int ret_bool Moved)
open Val (Env flat bs Vl Rep RepL)

attribute [local go_sem] Oper.semAt_some

/-- A class whose fields lie at a place. -/
structure At (W : World) (bc : Nat) (V : Cl) (b o c : Nat) : Prop where
  c0 : W.cell? ⟨bc, 0, none⟩ = some (.string V.nm)
  c1 : W.cell? ⟨bc, 1, none⟩ = some (.slice (some ⟨b, o, none⟩) V.l.length c)
  row : W.rangeAt b o (V.l.flatMap cellsFd)
  lt : b < W.heap.size
  len : V.l.length ≤ 1000
theorem At.later {W W' : World} {bc b o c : Nat} {V : Cl} (h : At W bc V b o c) (hB : Below W.heap.size W W') : At W' bc V b o c :=
  ⟨(hB.cell (p := ⟨bc, 0, none⟩) (Kit.lt_of_cell h.c0)).trans h.c0, (hB.cell (p := ⟨bc, 1, none⟩) (Kit.lt_of_cell h.c1)).trans h.c1, Val.rangeAt_heap h.row (hB.block b h.lt), Nat.lt_of_lt_of_le h.lt hB.size, h.len⟩
theorem At.fd {W : World} {bc b o c : Nat} {V : Cl} (h : At W bc V b o c) : FdL W.heap.size W V.l (.slice (some ⟨b, o, none⟩) V.l.length c) :=
  .inr ⟨b, o, c, h.lt, rfl, by have := h.len; unfold maxLen; omega, h.row⟩
theorem At.nm {W : World} {bc b o c : Nat} {V : Cl} (h : At W bc V b o c) {k : Nat} {f : Fd} (hk : V.l[k]? = some f) : W.cell? ⟨b, o + k * 4, none⟩ = some (.string f.nm) := by
  have := h.row (k * 4) _ (cells_at V.l k f hk 0 _ rfl)
  simpa using this
theorem At.cells {W : World} {bc b o c : Nat} {V : Cl} (h : At W bc V b o c) : ∀ (j : Nat) (u : Value), (V.l.flatMap cellsFd)[j]? = some u → W.cell? ((⟨b, o, none⟩ : Addr).add j) = some u := fun j u hu => by
  rw [Addr.add_mid]; exact h.row j u hu
theorem cellsFds_one (l : List Fd) : ∀ u ∈ l.flatMap cellsFd, u.oneCell' = true := by
  intro u hu
  obtain ⟨x, _, h⟩ := List.mem_flatMap.1 hu
  exact cellsFd_one x u h
/-- Where one cell of a list of fields is set. -/
theorem cells_set : ∀ (l : List Fd) (k : Nat) (f g : Fd) (j : Nat) (v : Value), l[k]? = some f → (cellsFd f).set j v = cellsFd g → j < 4 → (l.flatMap cellsFd).set (k * 4 + j) v = (l.set k g).flatMap cellsFd
  | [], _, _, _, _, _, h, _, _ => by simp at h
  | y :: r, 0, f, g, j, v, h, hs, hj => by
    simp only [List.getElem?_cons_zero, Option.some.injEq] at h
    subst h
    rw [List.flatMap_cons, List.set_append_left _ _ (by simp; omega), Nat.zero_mul, Nat.zero_add, hs, List.set_cons_zero, List.flatMap_cons]
  | y :: r, k + 1, f, g, j, v, h, hs, hj => by
    rw [List.flatMap_cons, List.set_append_right _ _ (by simp; omega), show (k + 1) * 4 + j - (cellsFd y).length = k * 4 + j from by simp; omega, cells_set r k f g j v (by simpa using h) hs hj, List.set_cons_succ, List.flatMap_cons]

/-- What lies in memory while a class is copied: the box, and a row of its own. -/
structure CpW (w : World) (nm : ByteArray) (cv : Value) (n : Nat) (xs : List Value) (lv : Value) (W : World) : Prop where
  c0 : W.cell? ⟨w.heap.size, 0, none⟩ = some (.string nm)
  c1 : W.cell? ⟨w.heap.size, 1, none⟩ = some cv
  cf : ∀ i, W.frozen? ⟨w.heap.size, i, none⟩ = false
  row : W.ownsRow (w.heap.size + 1) 94 4 lv n xs
  below : Below w.heap.size w W
  sz : w.heap.size + 1 ≤ W.heap.size
theorem CpW.begins (w : World) (nm : ByteArray) (cv : Value) : CpW w nm cv 0 [] (.slice none 0 0) (w.alloc (.cells #[.string nm, cv] 56)) :=
  ⟨Kit.cell_new w #[.string nm, cv] 56 0 rfl, Kit.cell_new w #[.string nm, cv] 56 1 rfl, fun i => Kit.frozen_new _ _ _ i, World.ownsRow_nil _ _ _ _, Kit.below_alloc _ _, by simp⟩
theorem CpW.grow {w : World} {nm : ByteArray} {cv : Value} {n n' : Nat} {xs xs' : List Value} {lv lv' : Value} {W W' : World} {S : Nat → Prop} (h : CpW w nm cv n xs lv W) (hm : Moved S W W') (hS : ∀ j, S j → w.heap.size + 1 ≤ j)
    (hown : W'.ownsRow (w.heap.size + 1) 94 4 lv' n' xs') : CpW w nm cv n' xs' lv' W' := by
  have hz := h.sz
  have hn : ¬ S w.heap.size := fun hs => by have := hS _ hs; omega
  exact ⟨Val.cell_moved h.c0 hm hn, Val.cell_moved h.c1 hm hn, fun i => (World.frozen?_of_block (hm.block w.heap.size (by omega) hn)).trans (h.cf i), hown, h.below.trans (hm.below (fun k hk => by have := hS k hk; omega) (by omega)), Nat.le_trans hz hm.size⟩
theorem CpW.alloc {w : World} {nm : ByteArray} {cv : Value} {n : Nat} {xs : List Value} {lv : Value} {W : World} (h : CpW w nm cv n xs lv W) (o : Obj) : CpW w nm cv n xs lv (W.alloc o) :=
  h.grow (S := fun _ => False) (Moved.alloc _ W o) (fun _ h => h.elim) (h.row.alloc o)
theorem CpW.drew {w : World} {nm : ByteArray} {cv : Value} {n : Nat} {xs : List Value} {lv : Value} {W : World} (h : CpW w nm cv n xs lv W) : CpW w nm cv n xs lv W.drew :=
  h.grow (S := fun _ => False) ((Moved.refl _ W).trans (Moved.of_below (B := W.heap.size + W.heap.size) ((Below.refl _ W).drew)) (fun i hi hs => by omega)) (fun _ h => h.elim) (Kit.ownsRow_kept h.row fun _ _ => rfl)
theorem CpW.stored {w : World} {nm : ByteArray} {cv : Value} {n : Nat} {xs : List Value} {lv : Value} {W : World} (h : CpW w nm cv n xs lv W) : CpW w nm lv n xs lv (W.setCell ⟨w.heap.size, 1, none⟩ lv) := by
  have hz := h.sz
  have hm : Moved (fun j => j = w.heap.size) W (W.setCell ⟨w.heap.size, 1, none⟩ lv) := Moved.setCell _ _ _ _ rfl
  exact ⟨(World.cell?_setCell_other _ _ _ _ (by simp)).trans h.c0, World.cell?_setCell_same _ _ _ h.c1, fun i => (World.frozen?_setCell _ _ _ _).trans (h.cf i), Kit.ownsRow_kept h.row fun j hj => hm.block j (h.row.lt j hj).2 (by have := (h.row.lt j hj).1; omega), h.below.trans (hm.below (fun k hk => by omega) (by omega)), Nat.le_trans hz hm.size⟩
theorem CpW.set {w : World} {nm : ByteArray} {cv : Value} {g cap n : Nat} {xs : List Value} {W : World} (h : CpW w nm cv n xs (.slice (some ⟨g, 0, none⟩) n cap) W) (o : Nat) (v : Value) (ho : o < n * 4) : CpW w nm cv n (xs.set o v) (.slice (some ⟨g, 0, none⟩) n cap) (W.setCell ⟨g, o, none⟩ v) := by
  have hg := (h.row.lt g rfl).1
  exact h.grow (S := fun j => j = g) (Moved.setCell _ _ _ _ rfl) (fun j hj => by omega) (Kit.ownsRow_set h.row o v ho)
theorem CpW.at {w : World} {nm : ByteArray} {g cap n : Nat} {xs : List Value} {W : World} (h : CpW w nm (.slice (some ⟨g, 0, none⟩) n cap) n xs (.slice (some ⟨g, 0, none⟩) n cap) W) {l : List Fd} (hx : xs = l.flatMap cellsFd) (hn : n = l.length) (hl : l.length ≤ 1000) : At W w.heap.size ⟨nm, l⟩ g 0 cap := by
  subst hx hn
  exact ⟨h.c0, h.c1, fun j u hu => by have := h.row.cells (g := g) rfl j u hu; rw [Addr.add_mid] at this; exact this, (h.row.lt g rfl).2, hl⟩
theorem CpW.cellAt {w : World} {nm : ByteArray} {cv : Value} {g cap n : Nat} {l : List Fd} {W : World} (h : CpW w nm cv n (l.flatMap cellsFd) (.slice (some ⟨g, 0, none⟩) n cap) W) {k j : Nat} {f : Fd} {v : Value} (hk : l[k]? = some f) (hv : (cellsFd f)[j]? = some v) : W.cell? ⟨g, k * 4 + j, none⟩ = some v ∧ W.frozen? ⟨g, k * 4 + j, none⟩ = false := by
  refine ⟨?_, Kit.ownsRow_frozen h.row rfl _⟩
  have := h.row.cells (g := g) rfl (k * 4 + j) v (cells_at l k f hk j v hv)
  rw [Addr.add_mid, Nat.zero_add] at this
  exact this
theorem fieldR_nm {f : Fd} (h : fieldR f = true) : rightNm f.nm = true := by
  unfold fieldR at h
  rw [Bool.and_eq_true] at h
  exact h.1
theorem once_wide {c : Cl} (hc : clsR c = true) {k : Nat} {f : Fd} (hk : c.l[k]? = some f) :
    ∃ D : List Fd, D = c.l.set k ⟨f.nm, 5, 1, true⟩ ∧ D.length = c.l.length ∧ D[k]? = some ⟨f.nm, 5, 1, true⟩ ∧ clsR ⟨c.nm, D⟩ = false ∧ clsR ⟨c.nm, D.set k ⟨f.nm, 5, 1, false⟩⟩ = true := by
  have hlt : k < c.l.length := (List.getElem?_eq_some_iff.1 hk).1
  have hn := fieldR_nm (((clsR_iff c).1 hc).2.2.1 k f hk)
  refine ⟨_, rfl, by simp, by simp [hlt], ?_, ?_⟩
  · rw [once_flat hc hk (g := ⟨f.nm, 5, 1, true⟩) rfl]
    show (rightNm f.nm && (Val.rightTy 5 1 && (!true || indexK 5))) = false
    rw [show (Val.rightTy 5 1 && (!true || indexK 5)) = false from rfl, Bool.and_false]
  · rw [List.set_set, once_flat hc hk (g := ⟨f.nm, 5, 1, false⟩) rfl]
    show (rightNm f.nm && (Val.rightTy 5 1 && (!false || indexK 5))) = true
    rw [hn]; rfl
theorem once_data {V : Cl} (hr : clsR V = true) {k : Nat} {f : Fd} (hk : V.l[k]? = some f) (b : UInt8) (hn : ∃ j, j < 6 ∧ f.nm = nameN j) :
    ∃ (m : Bool) (place : Int), clsR ⟨V.nm, V.l.set k ⟨f.nm ++ ⟨#[b]⟩, f.k, f.o, f.ix⟩⟩ = (nameByte b.toNat && m) ∧ fieldV V.l (f.nm ++ ⟨#[b]⟩) = .tuple #[.int .i64 place, .bool (!m)] ∧ fieldV V.l f.nm = .tuple #[.int .i64 (k : Int), .bool true] ∧ clsR ⟨V.nm, V.l ++ [⟨f.nm, 1, 0, false⟩]⟩ = false := by
  obtain ⟨j, hj, he⟩ := hn
  refine ⟨decide (fieldAt V.l (f.nm ++ ⟨#[b]⟩) < 0), if fieldAt V.l (f.nm ++ ⟨#[b]⟩) < 0 then 0 else fieldAt V.l (f.nm ++ ⟨#[b]⟩), ?_, ?_, ?_, once_twice hk rfl⟩
  · have h2 : rightNm (f.nm ++ ⟨#[b]⟩) = nameByte b.toNat := by rw [he]; exact ext_right hj b
    rw [← h2]
    exact once_odd hr hk (g := ⟨f.nm ++ ⟨#[b]⟩, f.k, f.o, f.ix⟩) (more_ne _ _) rfl rfl rfl
  · unfold fieldV
    by_cases h : fieldAt V.l (f.nm ++ ⟨#[b]⟩) < 0
    · rw [if_pos h, decide_eq_true h, if_pos h]; rfl
    · rw [if_neg h, decide_eq_false h, if_neg h]; rfl
  · have h := fieldAt_apart ((clsR_iff V).1 hr).2.2.2 hk
    unfold fieldV
    rw [h, if_neg (by omega)]
theorem nameN_size (i : Nat) : (nameN i).size ≤ 8 := by
  unfold nameN
  repeat' split
  all_goals decide
theorem ownsRow_pos {w : World} {base : Nat} {e : TypeId} {size : Nat} {v : Value} {n : Nat} {xs : List Value} (h : w.ownsRow base e size v n xs) (hn : 0 < n) : ∃ g cap, v = .slice (some ⟨g, 0, none⟩) n cap := by
  obtain ⟨m, rfl⟩ : ∃ m, n = m + 1 := ⟨n - 1, by omega⟩
  obtain ⟨g, cap, h, -, -⟩ := Kit.ownsRow_succ' h
  exact ⟨g, cap, h⟩
theorem newF (W : World) (f : Fd) : ∀ (j : Nat) (u : Value), (cellsFd f)[j]? = some u → (W.alloc (.cells (cellsFd f).toArray 94)).cell? ((⟨W.heap.size, 0, none⟩ : Addr).add j) = some u := fun j u hu => by
  rw [Addr.add_mid]
  exact Kit.cell_new W _ _ (0 + j) (by rw [Nat.zero_add, List.getElem?_toArray]; exact hu)
end Go.Proofs.YtmobnlofbopbeaaGreatDoor.Cls
/- Layer 4's laws: ClassFits: which values fit. -/
namespace Go.Proofs.YtmobnlofbopbeaaGreatDoor.Cls
open Go.RowKit
open Val (Vl Rep RepL flat flatV aggV bs pickN pickN_lt cellsF zero4 vInfo3 Fresh cellsV fitsV zeroV rightTy fitsK isRefK)
open Kit (Moved)

theorem inK_iff {k : Int} : Val.inK k = true ↔ 1 ≤ k ∧ k ≤ 4 := by unfold Val.inK; simp
theorem text8_right (p : Nat) : Val.rightT (text8 p) = true := by
  unfold text8
  split <;> kernel_rfl
theorem val4_right (K n : Int) (m : Nat) (hK : 1 ≤ K ∧ K ≤ 4) (hm : m ≤ 100000) : Val.rightF (val4 K n m) = true ∧ fitsK (val4 K n m).k K = true ∧ (val4 K n m).k ≠ 5 := by
  have h41 := pickN_lt n (n := 41) (by decide)
  unfold val4
  by_cases h1 : K = 1
  · subst h1
    rw [if_pos rfl]
    refine ⟨?_, rfl, (by decide : (1 : Int) ≠ 5)⟩
    show (if (1 : Int) = 2 then _ else Val.rightN 1 ((pickN n 41 : Int) - 20) && true && true) = true
    rw [if_neg (by decide)]
    unfold Val.rightN
    rw [if_neg (by decide), if_pos rfl]
    simp; omega
  · rw [if_neg h1]
    by_cases h2 : K = 2
    · subst h2
      rw [if_pos rfl]
      refine ⟨?_, rfl, (by decide : (2 : Int) ≠ 5)⟩
      show (if (2 : Int) = 2 then Val.rightT (text8 (pickN n 8)) && (0 : Int) == 0 && true else _) = true
      rw [if_pos rfl, text8_right]; rfl
    · rw [if_neg h2]
      split
      · refine ⟨by kernel_rfl, ?_, by decide⟩
        show fitsK 0 K = true
        rcases (show K = 3 ∨ K = 4 by omega) with rfl | rfl <;> rfl
      · rename_i hc
        have hp := pickN_lt n (n := m) (by omega)
        refine ⟨?_, ?_, by show ¬ K = 5; omega⟩
        · show (if K = 2 then _ else Val.rightN K (1 + (pickN n m : Int)) && true && true) = true
          rw [if_neg h2]
          unfold Val.rightN
          rw [if_neg (by omega), if_neg h1, if_pos (by omega)]
          simp; omega
        · show fitsK K K = true
          simp [fitsK]
/-- What is made of a type fits it. -/
theorem valF_fits (K O n : Int) (m : Nat) (hr : rightTy K O = true) (hm : m ≤ 100000) : fitsV (valF K O n m) K O = true := by
  have hr2 := hr
  unfold rightTy at hr2
  unfold fitsV valF
  rw [hr, Bool.true_and]
  by_cases h5 : K = 5
  · subst h5
    rw [if_pos rfl] at hr2 ⊢
    have hO := inK_iff.1 hr2
    have h4 := pickN_lt n (n := 4) (by decide)
    have hall : ∀ y ∈ valL O n m (pickN n 4), Val.rightF y = true ∧ fitsK y.k O = true ∧ y.k ≠ 5 := fun y hy => by
      obtain ⟨i, _, rfl⟩ := List.mem_map.1 hy
      exact val4_right O _ m hO hm
    rw [Bool.and_eq_true, Bool.and_eq_true]
    refine ⟨?_, rfl, List.all_eq_true.2 fun y hy => (hall y hy).2.1⟩
    unfold Val.rightV
    show (if (5 : Int) = 5 then decide ((valL O n m (pickN n 4)).length ≤ 12) && (0 : Int) == 0 && true && !(valL O n m (pickN n 4)).any Val.wrongIn else _) = true
    rw [if_pos rfl, Bool.and_eq_true, Bool.and_eq_true, Bool.and_eq_true, Bool.not_eq_true']
    refine ⟨⟨⟨?_, rfl⟩, rfl⟩, ?_⟩
    · rw [valL_len]; simp; omega
    · rw [Bool.eq_false_iff]
      intro h
      obtain ⟨y, hy, hw⟩ := List.any_eq_true.1 h
      unfold Val.wrongIn at hw
      rw [(hall y hy).1] at hw
      simp at hw
      exact (hall y hy).2.2 hw
  · rw [if_neg h5] at hr2 ⊢
    rw [Bool.and_eq_true] at hr2
    have hK := inK_iff.1 hr2.1
    obtain ⟨a, b, c⟩ := val4_right K n m hK hm
    unfold Val.rightV
    rw [if_neg c, a, b, show (val4 K n m).l = [] from val4_flat K n m]
    rfl
theorem zero_fits4 (K O : Int) (h : rightTy K O = true) : fitsV (zeroV K O) K O = true := by rw [fits_zero]; exact h
/-- Nothing fits references alone. -/
theorem nil_fits (K O : Int) (h : rightTy K O = true) : fitsV (flat 0 0 ⟨#[]⟩) K O = isRefK K := by
  unfold fitsV
  rw [h, Bool.true_and, zero_right.1, Bool.true_and]
  unfold rightTy at h
  have hK : ¬ (0 : Int) = K := by
    split at h
    · omega
    · rw [Bool.and_eq_true] at h
      have := inK_iff.1 h.1
      omega
  show (fitsK 0 K && true) = isRefK K
  unfold fitsK
  rw [beq_eq_false_iff_ne.2 hK]
  simp
theorem val4_size (K n : Int) (m : Nat) : (val4 K n m).s.size ≤ 7 := by
  unfold val4
  split
  · show (ByteArray.mk #[]).size ≤ 7; decide
  · split
    · show (text8 _).size ≤ 7
      unfold text8
      split <;> decide
    · split <;> (show (ByteArray.mk #[]).size ≤ 7; decide)
theorem valF_fitsz (K O n : Int) (m : Nat) : (valF K O n m).fits := by
  unfold valF
  split
  · refine ⟨by show (ByteArray.mk #[]).size ≤ _; decide, fun y hy => ?_⟩
    obtain ⟨i, _, rfl⟩ := List.mem_map.1 hy
    have := val4_size O (n.tdiv 4 + (i : Int)) m
    omega
  · refine ⟨by have := val4_size K n m; omega, fun y hy => ?_⟩
    rw [show (val4 K n m).l = [] from val4_flat K n m] at hy
    cases hy

/-- Where all values fit their fields. -/
theorem check_ok {V : Cl} (hr : clsR V = true) {vs : List Vl} (hl : vs.length = V.l.length) (h : ∀ (i : Nat) (f : Fd) (v : Vl), V.l[i]? = some f → vs[i]? = some v → fitsV v f.k f.o = true) : checkC V vs = (0, 0) := by
  have hf : firstOf misfit (V.l.zip vs) 0 = -1 := by
    rw [firstOf_at misfit (V.l.zip vs) 0 (V.l.zip vs).length (Nat.le_refl _) fun i p _ hp => by
      obtain ⟨h1, h2⟩ := List.getElem?_zip_eq_some.1 hp
      unfold misfit
      rw [h i p.1 p.2 h1 h2]; rfl, List.drop_eq_nil_of_le (Nat.le_refl _)]
    rfl
  unfold checkC
  rw [if_neg (by rw [hr]; simp), if_neg (by omega), hf]
  rfl
/-- Where one does not. -/
theorem check_one {V : Cl} (hr : clsR V = true) {vs : List Vl} (hl : vs.length = V.l.length) {a : Nat} {f : Fd} {v : Vl} (ha : V.l[a]? = some f) (hv : vs[a]? = some v) (hn : fitsV v f.k f.o = false)
    (h : ∀ (i : Nat) (f : Fd) (v : Vl), i ≠ a → V.l[i]? = some f → vs[i]? = some v → fitsV v f.k f.o = true) : checkC V vs = ((a : Int), 42) := by
  have hal : a < V.l.length := (List.getElem?_eq_some_iff.1 ha).1
  have hz : (V.l.zip vs)[a]? = some (f, v) := List.getElem?_zip_eq_some.2 ⟨ha, hv⟩
  have hf : firstOf misfit (V.l.zip vs) 0 = (a : Int) := by
    have hlt : a < (V.l.zip vs).length := (List.getElem?_eq_some_iff.1 hz).1
    rw [firstOf_at misfit (V.l.zip vs) 0 a (by omega) fun i p hi hp => by
      obtain ⟨h1, h2⟩ := List.getElem?_zip_eq_some.1 hp
      unfold misfit
      rw [h i p.1 p.2 (by omega) h1 h2]; rfl, List.drop_eq_getElem_cons hlt, firstOf, (List.getElem?_eq_some_iff.1 hz).2]
    unfold misfit
    simp [hn]
  unfold checkC
  rw [if_neg (by rw [hr]; simp), if_neg (by omega), hf, if_neg (by omega)]

/-- The cells of a list of values, and where their lists lie. -/
theorem repC_ps {B : Nat} {w : World} {b : Nat} : ∀ (l : List Vl) (o : Nat), Val.RepC B w b o l → ∃ ps : List (Vl × Value), ps.map (·.1) = l ∧ w.rangeAt b o (ps.flatMap cellsP) ∧ ∀ p ∈ ps, RepL B w p.1.l p.2
  | [], _, _ => ⟨[], rfl, fun j v hv => by simp at hv, fun p hp => by cases hp⟩
  | x :: r, o, h => by
    rw [Val.repC_cons] at h
    obtain ⟨⟨v, h1, h2⟩, h3⟩ := h
    obtain ⟨lv, rfl, hl⟩ := Val.rep_of h1
    obtain ⟨ps, e1, e2, e3⟩ := repC_ps r (o + 4) h3
    refine ⟨(x, lv) :: ps, by rw [List.map_cons, e1], ?_, fun p hp => ?_⟩
    · intro j u hu
      rw [List.flatMap_cons] at hu
      by_cases hj : j < 4
      · rw [List.getElem?_append_left (by simpa using hj)] at hu
        exact h2 j u hu
      · rw [List.getElem?_append_right (by simp; omega), show (cellsP (x, lv)).length = 4 from rfl] at hu
        have := e2 (j - 4) u hu
        rw [show o + 4 + (j - 4) = o + j by omega] at this
        exact this
    · rcases List.mem_cons.1 hp with rfl | hp
      · exact hl
      · exact e3 p hp
/-- A list of values at a place. -/
structure PL (W : World) (ps : List (Vl × Value)) (b o c : Nat) : Prop where
  lt : b < W.heap.size
  row : W.rangeAt b o (ps.flatMap cellsP)
  le : ps.length ≤ c
  cap : c ≤ maxLen
  each : ∀ p ∈ ps, RepL W.heap.size W p.1.l p.2
theorem pl_of {w : World} {l : List Vl} {lv : Value} (h : RepL w.heap.size w l lv) (h0 : l ≠ []) : ∃ (ps : List (Vl × Value)) (b o c : Nat), ps.map (·.1) = l ∧ lv = .slice (some ⟨b, o, none⟩) ps.length c ∧ PL w ps b o c := by
  rcases h with ⟨h, _⟩ | ⟨b, o, c, hb, _, h1, h2, h3, h4⟩
  · exact absurd h h0
  · obtain ⟨ps, e1, e2, e3⟩ := repC_ps l o h4
    have hl : ps.length = l.length := by rw [← e1, List.length_map]
    exact ⟨ps, b, o, c, e1, by rw [hl]; exact h1, hb, e2, by omega, h3, e3⟩
theorem PL.later {W W' : World} {ps : List (Vl × Value)} {b o c : Nat} (h : PL W ps b o c) (hB : Below W.heap.size W W') : PL W' ps b o c :=
  ⟨Nat.lt_of_lt_of_le h.lt hB.size, Val.rangeAt_heap h.row (hB.block b h.lt), h.le, h.cap, fun p hp => ((h.each p hp).below hB (Nat.le_refl _)).mono hB.size⟩
theorem PL.rep {W : World} {ps : List (Vl × Value)} {b o c : Nat} (h : PL W ps b o c) (h0 : 0 < ps.length) : RepL W.heap.size W (ps.map (·.1)) (.slice (some ⟨b, o, none⟩) ps.length c) :=
  .inr ⟨b, o, c, h.lt, (by intro e; rw [List.map_eq_nil_iff] at e; rw [e] at h0; exact absurd h0 (by decide)), by rw [List.length_map], by rw [List.length_map]; exact h.le, h.cap, repC_pairs ps o h.each h.row⟩
theorem PL.cells {W : World} {ps : List (Vl × Value)} {b o c : Nat} (h : PL W ps b o c) : ∀ (j : Nat) (u : Value), (ps.flatMap cellsP)[j]? = some u → W.cell? ((⟨b, o, none⟩ : Addr).add j) = some u := fun j u hu => by
  rw [Addr.add_mid]; exact h.row j u hu
theorem cellsP_at : ∀ (l : List (Vl × Value)) (i : Nat) (x : Vl × Value), l[i]? = some x → ∀ j u, (cellsP x)[j]? = some u → (l.flatMap cellsP)[i * 4 + j]? = some u
  | [], _, _, h, _, _, _ => by simp at h
  | y :: r, 0, x, h, j, u, hu => by
    simp only [List.getElem?_cons_zero, Option.some.injEq] at h
    subst h
    have hj : j < 4 := (List.getElem?_eq_some_iff.1 hu).1
    rw [List.flatMap_cons, List.getElem?_append_left (by simp; omega)]
    simpa using hu
  | y :: r, i + 1, x, h, j, u, hu => by
    rw [List.flatMap_cons, List.getElem?_append_right (by simp; omega), show (i + 1) * 4 + j - (cellsP y).length = i * 4 + j from by simp; omega]
    exact cellsP_at r i x (by simpa using h) j u hu
theorem PL.at {W : World} {ps : List (Vl × Value)} {b o c : Nat} (h : PL W ps b o c) {i : Nat} {p : Vl × Value} (hp : ps[i]? = some p) :
    W.cell? ⟨b, o + i * 4, none⟩ = some (.int .i64 p.1.k) ∧ W.cell? ⟨b, o + i * 4 + 1, none⟩ = some (.int .i64 p.1.n) ∧ W.cell? ⟨b, o + i * 4 + 2, none⟩ = some (.string p.1.s) ∧ W.cell? ⟨b, o + i * 4 + 3, none⟩ = some p.2 := by
  have g := fun j u hu => h.row (i * 4 + j) u (cellsP_at ps i p hp j u hu)
  simp only [← Nat.add_assoc] at g
  exact ⟨g 0 _ rfl, g 1 _ rfl, g 2 _ rfl, g 3 _ rfl⟩
theorem cellsP_set : ∀ (l : List (Vl × Value)) (i : Nat) (x y : Vl × Value), l[i]? = some x →
    ((((l.flatMap cellsP).set (i * 4) (.int .i64 y.1.k)).set (i * 4 + 1) (.int .i64 y.1.n)).set (i * 4 + 1 + 1) (.string y.1.s)).set (i * 4 + 1 + 1 + 1) y.2 = (l.set i y).flatMap cellsP
  | [], _, _, _, h => by simp at h
  | z :: r, 0, x, y, h => by
    rw [List.flatMap_cons, List.set_cons_zero, List.flatMap_cons]
    rfl
  | z :: r, i + 1, x, y, h => by
    have ih := cellsP_set r i x y (by simpa using h)
    rw [List.flatMap_cons, List.set_cons_succ, List.flatMap_cons, ← ih]
    have e : ∀ (m : Nat) (L : List Value) (v : Value), (cellsP z ++ L).set (m + 4) v = cellsP z ++ L.set m v := fun m L v => by
      rw [List.set_append_right _ _ (by simp), show m + 4 - (cellsP z).length = m from by simp]
    rw [show (i + 1) * 4 = i * 4 + 4 by omega, e, show i * 4 + 4 + 1 = i * 4 + 1 + 4 by omega, e, show i * 4 + 1 + 4 + 1 = i * 4 + 1 + 1 + 4 by omega, e, show i * 4 + 1 + 1 + 4 + 1 = i * 4 + 1 + 1 + 1 + 4 by omega, e]
theorem cellsPs_one {W : World} {ps : List (Vl × Value)} {b o c : Nat} (h : PL W ps b o c) : ∀ u ∈ ps.flatMap cellsP, u.oneCell' = true := by
  intro u hu
  obtain ⟨p, hp, h2⟩ := List.mem_flatMap.1 hu
  refine cellsP_one p ?_ u h2
  obtain ⟨a, c, e, -⟩ := (h.each p hp).len
  rw [e]; rfl

/-- What lies in memory while a list of values is copied: a row of its own, from block n on. -/
structure CpV (w : World) (ps : List (Vl × Value)) (g cap : Nat) (W : World) : Prop where
  row : W.ownsRow w.heap.size 30 4 (.slice (some ⟨g, 0, none⟩) ps.length cap) ps.length (ps.flatMap cellsP)
  below : Below w.heap.size w W
  each : ∀ p ∈ ps, RepL w.heap.size w p.1.l p.2
theorem CpV.pl {w : World} {ps : List (Vl × Value)} {g cap : Nat} {W : World} (h : CpV w ps g cap W) : PL W ps g 0 cap := by
  rcases h.row.2 with ⟨h1, _⟩ | ⟨g', cap', cur, h1, h2⟩
  · cases h1
  · cases h1
    exact ⟨(h.row.lt g rfl).2, fun j u hu => by have := h.row.cells (g := g) rfl j u hu; rw [Addr.add_mid] at this; exact this, h2.2.2.1, h2.2.2.2.1, fun p hp => ((h.each p hp).below h.below (Nat.le_refl _)).mono h.below.size⟩
/-- One value of the copy is another one. -/
theorem CpV.set {w : World} {ps : List (Vl × Value)} {g cap : Nat} {W : World} (h : CpV w ps g cap W) {i : Nat} {x y : Vl × Value} (hx : ps[i]? = some x) (hy : RepL w.heap.size w y.1.l y.2) :
    CpV w (ps.set i y) g cap ((((W.setCell ⟨g, i * 4, none⟩ (.int .i64 y.1.k)).setCell ⟨g, i * 4 + 1, none⟩ (.int .i64 y.1.n)).setCell ⟨g, i * 4 + 1 + 1, none⟩ (.string y.1.s)).setCell ⟨g, i * 4 + 1 + 1 + 1, none⟩ y.2) := by
  have hi : i < ps.length := (List.getElem?_eq_some_iff.1 hx).1
  have h1 := Kit.ownsRow_set (Kit.ownsRow_set (Kit.ownsRow_set (Kit.ownsRow_set h.row (i * 4) (.int .i64 y.1.k) (by omega)) (i * 4 + 1) (.int .i64 y.1.n) (by omega)) (i * 4 + 1 + 1) (.string y.1.s) (by omega)) (i * 4 + 1 + 1 + 1) y.2 (by omega)
  rw [cellsP_set ps i x y hx] at h1
  have hg := (h.row.lt g rfl).1
  have hm : Moved (fun j => j = g) W ((((W.setCell ⟨g, i * 4, none⟩ (.int .i64 y.1.k)).setCell ⟨g, i * 4 + 1, none⟩ (.int .i64 y.1.n)).setCell ⟨g, i * 4 + 1 + 1, none⟩ (.string y.1.s)).setCell ⟨g, i * 4 + 1 + 1 + 1, none⟩ y.2) :=
    (((Moved.setCell (fun j => j = g) W _ _ rfl).trans (Moved.setCell (fun j => j = g) _ ⟨g, i * 4 + 1, none⟩ _ rfl) (fun _ _ h => h)).trans (Moved.setCell (fun j => j = g) _ ⟨g, i * 4 + 1 + 1, none⟩ _ rfl) (fun _ _ h => h)).trans (Moved.setCell (fun j => j = g) _ ⟨g, i * 4 + 1 + 1 + 1, none⟩ _ rfl) (fun _ _ h => h)
  refine ⟨by simpa using h1, h.below.trans (hm.below (fun j hj => by omega) h.below.size), fun p hp => ?_⟩
  rcases List.mem_or_eq_of_mem_set hp with h2 | rfl
  · exact h.each p h2
  · exact hy
end Go.Proofs.YtmobnlofbopbeaaGreatDoor.Cls
/- Layer 4's laws: ClassFits: what Check tells of the law's values. -/
namespace Go.Proofs.YtmobnlofbopbeaaGreatDoor.Cls
open Go.RowKit
open Val (Vl Rep RepL flat flatV aggV bs pickN pickN_lt cellsF zero4 vInfo3 Fresh cellsV fitsV zeroV rightTy fitsK isRefK)
open Kit (Moved)

theorem cls_ty {V : Cl} (hr : clsR V = true) {i : Nat} {f : Fd} (h : V.l[i]? = some f) : rightTy f.k f.o = true := by
  have := ((clsR_iff V).1 hr).2.2.1 i f h
  unfold fieldR at this
  rw [Bool.and_eq_true, Bool.and_eq_true] at this
  exact this.2.1
theorem valsOf_len (fs : List Fd) (l : List Int) (m : Nat) : (valsOf fs l m).length = fs.length := valsK_len _ _ _ _
theorem valsOf_at {fs : List Fd} {l : List Int} {m i : Nat} {f : Fd} (h : fs[i]? = some f) : (valsOf fs l m)[i]? = some (valF f.k f.o (nOf l i) m) := by
  have hi := (List.getElem?_eq_some_iff.1 h).1
  have hg : fs.getD i ⟨⟨#[]⟩, 1, 0, false⟩ = f := by rw [List.getD_eq_getElem?_getD, h]; rfl
  unfold valsOf valsK
  rw [List.getElem?_map, List.getElem?_range hi, Option.map_some, hg]
theorem vals_sz (fs : List Fd) (l : List Int) (m : Nat) : ∀ y ∈ valsOf fs l m, y.fits := fun y hy => by
  obtain ⟨i, _, rfl⟩ := List.mem_map.1 hy
  exact valF_fitsz _ _ _ _
theorem fits_vals {V : Cl} (hr : clsR V = true) (l : List Int) (m : Nat) (hm : m ≤ 100000) : checkC V (valsOf V.l l m) = (0, 0) :=
  check_ok hr (valsOf_len _ _ _) fun i f v hf hv => by
    rw [valsOf_at hf] at hv
    cases hv
    exact valF_fits _ _ _ _ (cls_ty hr hf) hm
/-- The least values of a class. -/
def zerosOf (fs : List Fd) : List Vl := fs.map fun f => zeroV f.k f.o
theorem fits_zeros {V : Cl} (hr : clsR V = true) : checkC V (zerosOf V.l) = (0, 0) :=
  check_ok hr (by simp [zerosOf]) fun i f v hf hv => by
    unfold zerosOf at hv
    rw [List.getElem?_map, hf] at hv
    cases hv
    exact zero_fits4 _ _ (cls_ty hr hf)
theorem fits_none {V : Cl} (hr : clsR V = true) (l : List Int) (m : Nat) (hm : m ≤ 100000) {a : Nat} {f : Fd} (ha : V.l[a]? = some f) :
    checkC V ((valsOf V.l l m).set a (flat 0 0 ⟨#[]⟩)) = if isRefK f.k then (0, 0) else ((a : Int), 42) := by
  have hal := (List.getElem?_eq_some_iff.1 ha).1
  have hlen : ((valsOf V.l l m).set a (flat 0 0 ⟨#[]⟩)).length = V.l.length := by rw [List.length_set, valsOf_len]
  have hat : ((valsOf V.l l m).set a (flat 0 0 ⟨#[]⟩))[a]? = some (flat 0 0 ⟨#[]⟩) := by
    rw [List.getElem?_set_self (by rw [valsOf_len]; exact hal)]
  have hoth : ∀ (i : Nat) (g : Fd) (v : Vl), i ≠ a → V.l[i]? = some g → ((valsOf V.l l m).set a (flat 0 0 ⟨#[]⟩))[i]? = some v → fitsV v g.k g.o = true := fun i g v hi hg hv => by
    rw [List.getElem?_set_ne (by omega), valsOf_at hg] at hv
    cases hv
    exact valF_fits _ _ _ _ (cls_ty hr hg) hm
  cases hn : isRefK f.k
  · exact check_one hr hlen ha hat ((nil_fits f.k f.o (cls_ty hr ha)).trans hn) hoth
  · refine check_ok hr hlen fun i g v hg hv => ?_
    by_cases hi : i = a
    · subst hi
      rw [ha] at hg; cases hg
      rw [hat] at hv; cases hv
      exact (nil_fits f.k f.o (cls_ty hr ha)).trans hn
    · exact hoth i g v hi hg hv
theorem fits_other {V : Cl} (hr : clsR V = true) (l : List Int) (m : Nat) (hm : m ≤ 100000) {a b : Nat} {f g : Fd} (ha : V.l[a]? = some f) (hb : V.l[b]? = some g) (h1 : f.k = g.k) (h2 : f.o = g.o) :
    checkC V ((valsOf V.l l m).set a (valF g.k g.o (nOf l b) m)) = (0, 0) := by
  have hal := (List.getElem?_eq_some_iff.1 ha).1
  refine check_ok hr (by rw [List.length_set, valsOf_len]) fun i e v he hv => ?_
  by_cases hi : i = a
  · subst hi
    rw [ha] at he; cases he
    rw [List.getElem?_set_self (by rw [valsOf_len]; exact hal)] at hv; cases hv
    rw [h1, h2]
    exact valF_fits _ _ _ _ (cls_ty hr hb) hm
  · rw [List.getElem?_set_ne (by omega), valsOf_at he] at hv
    cases hv
    exact valF_fits _ _ _ _ (cls_ty hr he) hm
abbrev quiteNew : ByteArray := ⟨#[113, 117, 105, 116, 101, 95, 110, 101, 119]⟩
abbrev otherNm : ByteArray := ⟨#[111, 116, 104, 101, 114]⟩
theorem fits_renamed {V : Cl} (hr : clsR V = true) (hn : ∀ f ∈ V.l, ∃ j, j < 6 ∧ f.nm = nameN j) (l : List Int) (m : Nat) (hm : m ≤ 100000) {a : Nat} {f : Fd} (ha : V.l[a]? = some f) :
    checkC ⟨otherNm, V.l.set a ⟨quiteNew, f.k, f.o, f.ix⟩⟩ (valsOf V.l l m) = (0, 0) := by
  have hne : ∀ g ∈ V.l, g.nm ≠ quiteNew := fun g hg e => by
    obtain ⟨j, _, hj⟩ := hn g hg
    have h1 := nameN_size j
    rw [← hj, e] at h1
    exact absurd h1 (by decide)
  have hal := (List.getElem?_eq_some_iff.1 ha).1
  have h1 := once_odd hr ha (g := ⟨quiteNew, f.k, f.o, f.ix⟩) (fun e => hne f (List.mem_of_getElem? ha) e.symm) rfl rfl rfl
  have h2 : clsR ⟨V.nm, V.l.set a ⟨quiteNew, f.k, f.o, f.ix⟩⟩ = true := by
    rw [h1, show rightNm quiteNew = true by kernel_rfl, Bool.true_and, decide_eq_true_iff]
    exact met_iff.2 fun i g hg => hne g (List.mem_of_getElem? hg)
  have h3 : clsR ⟨otherNm, V.l.set a ⟨quiteNew, f.k, f.o, f.ix⟩⟩ = true := (clsR_iff _).2 ⟨by kernel_rfl, ((clsR_iff _).1 h2).2⟩
  refine check_ok h3 (by rw [valsOf_len]; simp) fun i e v he hv => ?_
  rcases set_at he with ⟨rfl, rfl⟩ | ⟨_, he⟩
  · rw [valsOf_at ha] at hv
    cases hv
    exact valF_fits _ _ _ _ (cls_ty hr ha) hm
  · rw [valsOf_at he] at hv
    cases hv
    exact valF_fits _ _ _ _ (cls_ty hr he) hm
theorem zero_cells (K O : Int) : cellsF (zeroV K O) = [.int .i64 (zeroV K O).k, .int .i64 0, .string ⟨#[]⟩, .slice none 0 0] ∧ (zeroV K O).isFlat := by
  unfold zeroV
  split <;> exact ⟨rfl, rfl⟩

/-- What stands in the round in which the least values are laid. -/
structure ZJ (w : World) (fs : List Fd) (k : Nat) (zv : Value) (W : World) : Prop where
  row : W.ownsRow w.heap.size 30 4 zv k ((zerosOf (fs.take k)).flatMap cellsF)
  nil : k = 0 → zv = .slice none 0 0
  below : Below w.heap.size w W
theorem ZJ.later {w : World} {fs : List Fd} {k : Nat} {zv : Value} {W W' : World} (h : ZJ w fs k zv W) (hB : Below W.heap.size W W') : ZJ w fs k zv W' :=
  ⟨Kit.ownsRow_kept h.row (fun j hj => hB.block j (h.row.lt j hj).2), h.nil, h.below.trans (hB.mono h.below.size)⟩
theorem ZJ.slice {w : World} {fs : List Fd} {k : Nat} {zv : Value} {W : World} (h : ZJ w fs k zv W) : ∃ a c, zv = .slice a k c := by
  rcases h.row.2 with ⟨h1, h2⟩ | ⟨g, cap, cur, h1, _⟩
  · exact ⟨none, 0, by rw [h1, h2]⟩
  · exact ⟨_, _, h1⟩
theorem ZJ.push {w : World} {fs : List Fd} {k : Nat} {zv zv' : Value} {W W' : World} {f : Fd} (h : ZJ w fs k zv W) (hf : fs[k]? = some f) (hg : W.grownBy W' zv.ownBlock) (hown : W'.ownsRow w.heap.size 30 4 zv' (k + 1) ((zerosOf (fs.take k)).flatMap cellsF ++ cellsF (zeroV f.k f.o))) : ZJ w fs (k + 1) zv' W' := by
  obtain ⟨hk, he⟩ := List.getElem?_eq_some_iff.1 hf
  refine ⟨?_, fun h => by omega, h.below.trans ((Kit.Moved.of_grownBy hg).below (fun j hj => (h.row.lt j hj).1) h.below.size)⟩
  rw [List.take_succ_eq_append_getElem hk, he]
  unfold zerosOf at hown ⊢
  rw [List.map_append, List.flatMap_append]
  simpa using hown
theorem ZJ.rep {w : World} {fs : List Fd} {zv : Value} {W : World} (h : ZJ w fs fs.length zv W) : RepL W.heap.size W (zerosOf fs) zv := by
  have h1 := h.row
  rw [List.take_length] at h1
  refine Val.repL_own h1 (by simp [zerosOf]) (fun y hy => ?_) h.nil
  obtain ⟨f, _, rfl⟩ := List.mem_map.1 hy
  exact (zero_cells _ _).2
theorem zeros_sz (fs : List Fd) : ∀ y ∈ zerosOf fs, y.fits := fun y hy => by
  obtain ⟨f, _, rfl⟩ := List.mem_map.1 hy
  exact zero_fits _ _
end Go.Proofs.YtmobnlofbopbeaaGreatDoor.Cls
