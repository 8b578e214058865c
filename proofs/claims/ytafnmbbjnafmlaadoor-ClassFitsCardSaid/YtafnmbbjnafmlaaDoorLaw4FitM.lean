/- Layer 4's laws: ClassFits: which values fit. -/
import Derived.Test.YtafnmbbjnafmlaaDoorLaw4Vals
import Derived.Test.YtafnmbbjnafmlaaDoorClassMath3
import Derived.Test.YtafnmbbjnafmlaaDoorLaw4At
namespace Go.Proofs.YtafnmbbjnafmlaaDoor.Cls
open Go.RowKit
open Val (Vl Rep RepL flat flatV aggV bs pickN pickN_lt cellsF zero4 vInfo3 Fresh cellsV fitsV zeroV rightTy fitsK isRefK)
open Kit (Moved)

theorem inK_iff {k : Int} : Val.inK k = true ↔ 1 ≤ k ∧ k ≤ 4 := by unfold Val.inK; simp
theorem text8_right (p : Nat) : Val.rightT (text8 p) = true := by
  unfold text8
  split <;> kernel_rfl
theorem val4_right (K n : Int) (m : Nat) (hK : 1 ≤ K ∧ K ≤ 4) (hm : m ≤ 100000) : Val.rightF (val4 K n m) = true ∧ fitsK (val4 K n m).k K = true ∧ (val4 K n m).k ≠ 5 := by
  have h41 := pickN_lt n (n := 41) (by decide)
  unfold val4
  by_cases h1 : K = 1
  · subst h1
    rw [if_pos rfl]
    refine ⟨?_, rfl, (by decide : (1 : Int) ≠ 5)⟩
    show (if (1 : Int) = 2 then _ else Val.rightN 1 ((pickN n 41 : Int) - 20) && true && true) = true
    rw [if_neg (by decide)]
    unfold Val.rightN
    rw [if_neg (by decide), if_pos rfl]
    simp; omega
  · rw [if_neg h1]
    by_cases h2 : K = 2
    · subst h2
      rw [if_pos rfl]
      refine ⟨?_, rfl, (by decide : (2 : Int) ≠ 5)⟩
      show (if (2 : Int) = 2 then Val.rightT (text8 (pickN n 8)) && (0 : Int) == 0 && true else _) = true
      rw [if_pos rfl, text8_right]; rfl
    · rw [if_neg h2]
      split
      · refine ⟨by kernel_rfl, ?_, by decide⟩
        show fitsK 0 K = true
        rcases (show K = 3 ∨ K = 4 by omega) with rfl | rfl <;> rfl
      · rename_i hc
        have hp := pickN_lt n (n := m) (by omega)
        refine ⟨?_, ?_, by show ¬ K = 5; omega⟩
        · show (if K = 2 then _ else Val.rightN K (1 + (pickN n m : Int)) && true && true) = true
          rw [if_neg h2]
          unfold Val.rightN
          rw [if_neg (by omega), if_neg h1, if_pos (by omega)]
          simp; omega
        · show fitsK K K = true
          simp [fitsK]
/-- What is made of a type fits it. -/
theorem valF_fits (K O n : Int) (m : Nat) (hr : rightTy K O = true) (hm : m ≤ 100000) : fitsV (valF K O n m) K O = true := by
  have hr2 := hr
  unfold rightTy at hr2
  unfold fitsV valF
  rw [hr, Bool.true_and]
  by_cases h5 : K = 5
  · subst h5
    rw [if_pos rfl] at hr2 ⊢
    have hO := inK_iff.1 hr2
    have h4 := pickN_lt n (n := 4) (by decide)
    have hall : ∀ y ∈ valL O n m (pickN n 4), Val.rightF y = true ∧ fitsK y.k O = true ∧ y.k ≠ 5 := fun y hy => by
      obtain ⟨i, _, rfl⟩ := List.mem_map.1 hy
      exact val4_right O _ m hO hm
    rw [Bool.and_eq_true, Bool.and_eq_true]
    refine ⟨?_, rfl, List.all_eq_true.2 fun y hy => (hall y hy).2.1⟩
    unfold Val.rightV
    show (if (5 : Int) = 5 then decide ((valL O n m (pickN n 4)).length ≤ 12) && (0 : Int) == 0 && true && !(valL O n m (pickN n 4)).any Val.wrongIn else _) = true
    rw [if_pos rfl, Bool.and_eq_true, Bool.and_eq_true, Bool.and_eq_true, Bool.not_eq_true']
    refine ⟨⟨⟨?_, rfl⟩, rfl⟩, ?_⟩
    · rw [valL_len]; simp; omega
    · rw [Bool.eq_false_iff]
      intro h
      obtain ⟨y, hy, hw⟩ := List.any_eq_true.1 h
      unfold Val.wrongIn at hw
      rw [(hall y hy).1] at hw
      simp at hw
      exact (hall y hy).2.2 hw
  · rw [if_neg h5] at hr2 ⊢
    rw [Bool.and_eq_true] at hr2
    have hK := inK_iff.1 hr2.1
    obtain ⟨a, b, c⟩ := val4_right K n m hK hm
    unfold Val.rightV
    rw [if_neg c, a, b, show (val4 K n m).l = [] from val4_flat K n m]
    rfl
theorem zero_fits4 (K O : Int) (h : rightTy K O = true) : fitsV (zeroV K O) K O = true := by rw [fits_zero]; exact h
/-- Nothing fits references alone. -/
theorem nil_fits (K O : Int) (h : rightTy K O = true) : fitsV (flat 0 0 ⟨#[]⟩) K O = isRefK K := by
  unfold fitsV
  rw [h, Bool.true_and, zero_right.1, Bool.true_and]
  unfold rightTy at h
  have hK : ¬ (0 : Int) = K := by
    split at h
    · omega
    · rw [Bool.and_eq_true] at h
      have := inK_iff.1 h.1
      omega
  show (fitsK 0 K && true) = isRefK K
  unfold fitsK
  rw [beq_eq_false_iff_ne.2 hK]
  simp
theorem val4_size (K n : Int) (m : Nat) : (val4 K n m).s.size ≤ 7 := by
  unfold val4
  split
  · show (ByteArray.mk #[]).size ≤ 7; decide
  · split
    · show (text8 _).size ≤ 7
      unfold text8
      split <;> decide
    · split <;> (show (ByteArray.mk #[]).size ≤ 7; decide)
theorem valF_fitsz (K O n : Int) (m : Nat) : (valF K O n m).fits := by
  unfold valF
  split
  · refine ⟨by show (ByteArray.mk #[]).size ≤ _; decide, fun y hy => ?_⟩
    obtain ⟨i, _, rfl⟩ := List.mem_map.1 hy
    have := val4_size O (n.tdiv 4 + (i : Int)) m
    omega
  · refine ⟨by have := val4_size K n m; omega, fun y hy => ?_⟩
    rw [show (val4 K n m).l = [] from val4_flat K n m] at hy
    cases hy

/-- Where all values fit their fields. -/
theorem check_ok {V : Cl} (hr : clsR V = true) {vs : List Vl} (hl : vs.length = V.l.length) (h : ∀ (i : Nat) (f : Fd) (v : Vl), V.l[i]? = some f → vs[i]? = some v → fitsV v f.k f.o = true) : checkC V vs = (0, 0) := by
  have hf : firstOf misfit (V.l.zip vs) 0 = -1 := by
    rw [firstOf_at misfit (V.l.zip vs) 0 (V.l.zip vs).length (Nat.le_refl _) fun i p _ hp => by
      obtain ⟨h1, h2⟩ := List.getElem?_zip_eq_some.1 hp
      unfold misfit
      rw [h i p.1 p.2 h1 h2]; rfl, List.drop_eq_nil_of_le (Nat.le_refl _)]
    rfl
  unfold checkC
  rw [if_neg (by rw [hr]; simp), if_neg (by omega), hf]
  rfl
/-- Where one does not. -/
theorem check_one {V : Cl} (hr : clsR V = true) {vs : List Vl} (hl : vs.length = V.l.length) {a : Nat} {f : Fd} {v : Vl} (ha : V.l[a]? = some f) (hv : vs[a]? = some v) (hn : fitsV v f.k f.o = false)
    (h : ∀ (i : Nat) (f : Fd) (v : Vl), i ≠ a → V.l[i]? = some f → vs[i]? = some v → fitsV v f.k f.o = true) : checkC V vs = ((a : Int), 42) := by
  have hal : a < V.l.length := (List.getElem?_eq_some_iff.1 ha).1
  have hz : (V.l.zip vs)[a]? = some (f, v) := List.getElem?_zip_eq_some.2 ⟨ha, hv⟩
  have hf : firstOf misfit (V.l.zip vs) 0 = (a : Int) := by
    have hlt : a < (V.l.zip vs).length := (List.getElem?_eq_some_iff.1 hz).1
    rw [firstOf_at misfit (V.l.zip vs) 0 a (by omega) fun i p hi hp => by
      obtain ⟨h1, h2⟩ := List.getElem?_zip_eq_some.1 hp
      unfold misfit
      rw [h i p.1 p.2 (by omega) h1 h2]; rfl, List.drop_eq_getElem_cons hlt, firstOf, (List.getElem?_eq_some_iff.1 hz).2]
    unfold misfit
    simp [hn]
  unfold checkC
  rw [if_neg (by rw [hr]; simp), if_neg (by omega), hf, if_neg (by omega)]

/-- The cells of a list of values, and where their lists lie. -/
theorem repC_ps {B : Nat} {w : World} {b : Nat} : ∀ (l : List Vl) (o : Nat), Val.RepC B w b o l → ∃ ps : List (Vl × Value), ps.map (·.1) = l ∧ w.rangeAt b o (ps.flatMap cellsP) ∧ ∀ p ∈ ps, RepL B w p.1.l p.2
  | [], _, _ => ⟨[], rfl, fun j v hv => by simp at hv, fun p hp => by cases hp⟩
  | x :: r, o, h => by
    rw [Val.repC_cons] at h
    obtain ⟨⟨v, h1, h2⟩, h3⟩ := h
    obtain ⟨lv, rfl, hl⟩ := Val.rep_of h1
    obtain ⟨ps, e1, e2, e3⟩ := repC_ps r (o + 4) h3
    refine ⟨(x, lv) :: ps, by rw [List.map_cons, e1], ?_, fun p hp => ?_⟩
    · intro j u hu
      rw [List.flatMap_cons] at hu
      by_cases hj : j < 4
      · rw [List.getElem?_append_left (by simpa using hj)] at hu
        exact h2 j u hu
      · rw [List.getElem?_append_right (by simp; omega), show (cellsP (x, lv)).length = 4 from rfl] at hu
        have := e2 (j - 4) u hu
        rw [show o + 4 + (j - 4) = o + j by omega] at this
        exact this
    · rcases List.mem_cons.1 hp with rfl | hp
      · exact hl
      · exact e3 p hp
/-- A list of values at a place. -/
structure PL (W : World) (ps : List (Vl × Value)) (b o c : Nat) : Prop where
  lt : b < W.heap.size
  row : W.rangeAt b o (ps.flatMap cellsP)
  le : ps.length ≤ c
  cap : c ≤ maxLen
  each : ∀ p ∈ ps, RepL W.heap.size W p.1.l p.2
theorem pl_of {w : World} {l : List Vl} {lv : Value} (h : RepL w.heap.size w l lv) (h0 : l ≠ []) : ∃ (ps : List (Vl × Value)) (b o c : Nat), ps.map (·.1) = l ∧ lv = .slice (some ⟨b, o, none⟩) ps.length c ∧ PL w ps b o c := by
  rcases h with ⟨h, _⟩ | ⟨b, o, c, hb, _, h1, h2, h3, h4⟩
  · exact absurd h h0
  · obtain ⟨ps, e1, e2, e3⟩ := repC_ps l o h4
    have hl : ps.length = l.length := by rw [← e1, List.length_map]
    exact ⟨ps, b, o, c, e1, by rw [hl]; exact h1, hb, e2, by omega, h3, e3⟩
theorem PL.later {W W' : World} {ps : List (Vl × Value)} {b o c : Nat} (h : PL W ps b o c) (hB : Below W.heap.size W W') : PL W' ps b o c :=
  ⟨Nat.lt_of_lt_of_le h.lt hB.size, Val.rangeAt_heap h.row (hB.block b h.lt), h.le, h.cap, fun p hp => ((h.each p hp).below hB (Nat.le_refl _)).mono hB.size⟩
theorem PL.rep {W : World} {ps : List (Vl × Value)} {b o c : Nat} (h : PL W ps b o c) (h0 : 0 < ps.length) : RepL W.heap.size W (ps.map (·.1)) (.slice (some ⟨b, o, none⟩) ps.length c) :=
  .inr ⟨b, o, c, h.lt, (by intro e; rw [List.map_eq_nil_iff] at e; rw [e] at h0; exact absurd h0 (by decide)), by rw [List.length_map], by rw [List.length_map]; exact h.le, h.cap, repC_pairs ps o h.each h.row⟩
theorem PL.cells {W : World} {ps : List (Vl × Value)} {b o c : Nat} (h : PL W ps b o c) : ∀ (j : Nat) (u : Value), (ps.flatMap cellsP)[j]? = some u → W.cell? ((⟨b, o, none⟩ : Addr).add j) = some u := fun j u hu => by
  rw [Addr.add_mid]; exact h.row j u hu
theorem cellsP_at : ∀ (l : List (Vl × Value)) (i : Nat) (x : Vl × Value), l[i]? = some x → ∀ j u, (cellsP x)[j]? = some u → (l.flatMap cellsP)[i * 4 + j]? = some u
  | [], _, _, h, _, _, _ => by simp at h
  | y :: r, 0, x, h, j, u, hu => by
    simp only [List.getElem?_cons_zero, Option.some.injEq] at h
    subst h
    have hj : j < 4 := (List.getElem?_eq_some_iff.1 hu).1
    rw [List.flatMap_cons, List.getElem?_append_left (by simp; omega)]
    simpa using hu
  | y :: r, i + 1, x, h, j, u, hu => by
    rw [List.flatMap_cons, List.getElem?_append_right (by simp; omega), show (i + 1) * 4 + j - (cellsP y).length = i * 4 + j from by simp; omega]
    exact cellsP_at r i x (by simpa using h) j u hu
theorem PL.at {W : World} {ps : List (Vl × Value)} {b o c : Nat} (h : PL W ps b o c) {i : Nat} {p : Vl × Value} (hp : ps[i]? = some p) :
    W.cell? ⟨b, o + i * 4, none⟩ = some (.int .i64 p.1.k) ∧ W.cell? ⟨b, o + i * 4 + 1, none⟩ = some (.int .i64 p.1.n) ∧ W.cell? ⟨b, o + i * 4 + 2, none⟩ = some (.string p.1.s) ∧ W.cell? ⟨b, o + i * 4 + 3, none⟩ = some p.2 := by
  have g := fun j u hu => h.row (i * 4 + j) u (cellsP_at ps i p hp j u hu)
  simp only [← Nat.add_assoc] at g
  exact ⟨g 0 _ rfl, g 1 _ rfl, g 2 _ rfl, g 3 _ rfl⟩
theorem cellsP_set : ∀ (l : List (Vl × Value)) (i : Nat) (x y : Vl × Value), l[i]? = some x →
    ((((l.flatMap cellsP).set (i * 4) (.int .i64 y.1.k)).set (i * 4 + 1) (.int .i64 y.1.n)).set (i * 4 + 1 + 1) (.string y.1.s)).set (i * 4 + 1 + 1 + 1) y.2 = (l.set i y).flatMap cellsP
  | [], _, _, _, h => by simp at h
  | z :: r, 0, x, y, h => by
    rw [List.flatMap_cons, List.set_cons_zero, List.flatMap_cons]
    rfl
  | z :: r, i + 1, x, y, h => by
    have ih := cellsP_set r i x y (by simpa using h)
    rw [List.flatMap_cons, List.set_cons_succ, List.flatMap_cons, ← ih]
    have e : ∀ (m : Nat) (L : List Value) (v : Value), (cellsP z ++ L).set (m + 4) v = cellsP z ++ L.set m v := fun m L v => by
      rw [List.set_append_right _ _ (by simp), show m + 4 - (cellsP z).length = m from by simp]
    rw [show (i + 1) * 4 = i * 4 + 4 by omega, e, show i * 4 + 4 + 1 = i * 4 + 1 + 4 by omega, e, show i * 4 + 1 + 4 + 1 = i * 4 + 1 + 1 + 4 by omega, e, show i * 4 + 1 + 1 + 4 + 1 = i * 4 + 1 + 1 + 1 + 4 by omega, e]
theorem cellsPs_one {W : World} {ps : List (Vl × Value)} {b o c : Nat} (h : PL W ps b o c) : ∀ u ∈ ps.flatMap cellsP, u.oneCell' = true := by
  intro u hu
  obtain ⟨p, hp, h2⟩ := List.mem_flatMap.1 hu
  refine cellsP_one p ?_ u h2
  obtain ⟨a, c, e, -⟩ := (h.each p hp).len
  rw [e]; rfl

/-- What lies in memory while a list of values is copied: a row of its own, from block n on. -/
structure CpV (w : World) (ps : List (Vl × Value)) (g cap : Nat) (W : World) : Prop where
  row : W.ownsRow w.heap.size 31 4 (.slice (some ⟨g, 0, none⟩) ps.length cap) ps.length (ps.flatMap cellsP)
  below : Below w.heap.size w W
  each : ∀ p ∈ ps, RepL w.heap.size w p.1.l p.2
theorem CpV.pl {w : World} {ps : List (Vl × Value)} {g cap : Nat} {W : World} (h : CpV w ps g cap W) : PL W ps g 0 cap := by
  rcases h.row.2 with ⟨h1, _⟩ | ⟨g', cap', cur, h1, h2⟩
  · cases h1
  · cases h1
    exact ⟨(h.row.lt g rfl).2, fun j u hu => by have := h.row.cells (g := g) rfl j u hu; rw [Addr.add_mid] at this; exact this, h2.2.2.1, h2.2.2.2.1, fun p hp => ((h.each p hp).below h.below (Nat.le_refl _)).mono h.below.size⟩
/-- One value of the copy is another one. -/
theorem CpV.set {w : World} {ps : List (Vl × Value)} {g cap : Nat} {W : World} (h : CpV w ps g cap W) {i : Nat} {x y : Vl × Value} (hx : ps[i]? = some x) (hy : RepL w.heap.size w y.1.l y.2) :
    CpV w (ps.set i y) g cap ((((W.setCell ⟨g, i * 4, none⟩ (.int .i64 y.1.k)).setCell ⟨g, i * 4 + 1, none⟩ (.int .i64 y.1.n)).setCell ⟨g, i * 4 + 1 + 1, none⟩ (.string y.1.s)).setCell ⟨g, i * 4 + 1 + 1 + 1, none⟩ y.2) := by
  have hi : i < ps.length := (List.getElem?_eq_some_iff.1 hx).1
  have h1 := Kit.ownsRow_set (Kit.ownsRow_set (Kit.ownsRow_set (Kit.ownsRow_set h.row (i * 4) (.int .i64 y.1.k) (by omega)) (i * 4 + 1) (.int .i64 y.1.n) (by omega)) (i * 4 + 1 + 1) (.string y.1.s) (by omega)) (i * 4 + 1 + 1 + 1) y.2 (by omega)
  rw [cellsP_set ps i x y hx] at h1
  have hg := (h.row.lt g rfl).1
  have hm : Moved (fun j => j = g) W ((((W.setCell ⟨g, i * 4, none⟩ (.int .i64 y.1.k)).setCell ⟨g, i * 4 + 1, none⟩ (.int .i64 y.1.n)).setCell ⟨g, i * 4 + 1 + 1, none⟩ (.string y.1.s)).setCell ⟨g, i * 4 + 1 + 1 + 1, none⟩ y.2) :=
    (((Moved.setCell (fun j => j = g) W _ _ rfl).trans (Moved.setCell (fun j => j = g) _ ⟨g, i * 4 + 1, none⟩ _ rfl) (fun _ _ h => h)).trans (Moved.setCell (fun j => j = g) _ ⟨g, i * 4 + 1 + 1, none⟩ _ rfl) (fun _ _ h => h)).trans (Moved.setCell (fun j => j = g) _ ⟨g, i * 4 + 1 + 1 + 1, none⟩ _ rfl) (fun _ _ h => h)
  refine ⟨by simpa using h1, h.below.trans (hm.below (fun j hj => by omega) h.below.size), fun p hp => ?_⟩
  rcases List.mem_or_eq_of_mem_set hp with h2 | rfl
  · exact h.each p h2
  · exact hy
end Go.Proofs.YtafnmbbjnafmlaaDoor.Cls
