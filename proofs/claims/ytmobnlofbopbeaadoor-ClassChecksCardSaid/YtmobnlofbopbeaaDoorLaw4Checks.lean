/- Layer 4's laws: ClassChecks. -/
import Derived.Test.YtmobnlofbopbeaaDoorLaw4Ex
import Derived.Test.YtmobnlofbopbeaaDoorM1
import Derived.Test.YtmobnlofbopbeaaDoorM4
import Derived.Deep.QuietTactic
namespace Go.Proofs.YtmobnlofbopbeaaDoor.Cls
open Go.RowKit
open Kit (ret_int ret_bool Moved)
open Val (Env flat bs Vl Rep RepL aggV cellsF cellsF_len zero4 vInfo3 pickN pickN_lt BoxF boxF_new)

attribute [local go_sem] Oper.semAt_some

/-- cut, of any class. -/
theorem cut_any (V : Cl) (hs : V.fits) (w : World) (lv : Value) (h : FdC w V.l lv) :
    Calls Tryd.prog 8 #[.agg #[.string V.nm, lv]] w fun e w' => (∃ lv', e = .returned (.agg #[.string (cutC V).nm, lv']) ∧ FdL w'.heap.size w' (cutC V).l lv') ∧ Below w.heap.size w w' := by
  rcases h with ⟨h0, a, c, rfl⟩ | ⟨b, o, c, rfl, h0, h1, h2, h3, h4⟩
  · refine (cut_nil V.nm a c w).mono fun e w' ⟨he, hB⟩ => ⟨⟨_, he, .inl ⟨?_, _, _, rfl⟩⟩, hB⟩
    unfold cutC; rw [h0]; rfl
  · exact cut_some V h0 hs w b o c h3 h1 h2 h4
theorem cutN_size (s : ByteArray) : (cutN s).size ≤ 30 := by
  unfold cutN
  rw [ByteArray.size_extract]; omega
theorem cut_fits (V : Cl) : (cutC V).fits := by
  refine ⟨by have := cutN_size V.nm; show (cutN V.nm).size ≤ _; omega, fun f hf => ?_⟩
  obtain ⟨g, _, rfl⟩ := List.mem_map.1 hf
  have := cutN_size g.nm
  show (cutN g.nm).size ≤ _
  omega

/-- A list of values of its own, from block B on. -/
structure VL (B : Nat) (ps : List (Vl × Value)) (vv : Value) (W : World) : Prop where
  row : W.ownsRow B 31 4 vv ps.length (ps.flatMap cellsP)
  each : ∀ p ∈ ps, (∀ y ∈ p.1.l, y.isFlat) ∧ RepL W.heap.size W p.1.l p.2 ∧ ∀ j, p.2.ownBlock = some j → B ≤ j
  nil : ps.length = 0 → vv = .slice none 0 0
theorem VL.moved {B : Nat} {ps : List (Vl × Value)} {vv : Value} {W W' : World} {S : Nat → Prop} (h : VL B ps vv W) (hm : Moved S W W') (hS : ∀ k, S k → k < B) : VL B ps vv W' :=
  ⟨Kit.ownsRow_kept h.row (fun j hj => hm.block j (h.row.lt j hj).2 (fun hs => by have := hS j hs; have := (h.row.lt j hj).1; omega)), fun p hp => ⟨(h.each p hp).1, (h.each p hp).2.1.keep1 (h.each p hp).1 (fun j hj => hm.block j ((h.each p hp).2.1.lt j hj) (fun hs => by have := hS j hs; have := (h.each p hp).2.2 j hj; omega)) hm.size, (h.each p hp).2.2⟩, h.nil⟩
theorem ownsRow_base {w : World} {b b' : Nat} {e : TypeId} {size : Nat} {v : Value} {n : Nat} {xs : List Value} (h : w.ownsRow b e size v n xs) (hb : b' ≤ b) : w.ownsRow b' e size v n xs := by
  obtain ⟨h1, h2⟩ := h
  refine ⟨h1, ?_⟩
  rcases h2 with h2 | ⟨g, cap, cur, h3, h4, h5⟩
  · exact .inl h2
  · exact .inr ⟨g, cap, cur, h3, by omega, h5⟩
theorem cls_fits {V : Cl} (h : clsR V = true) : V.fits := by
  obtain ⟨h1, _, h3, _⟩ := (clsR_iff V).1 h
  refine ⟨by have := rightNm_size h1; omega, fun f hf => ?_⟩
  obtain ⟨i, hi⟩ := List.getElem?_of_mem hf
  have := rightNm_size (fieldR_nm (h3 i f hi))
  omega
theorem BxC.moved {W W' : World} {b : Nat} {c : Cl} {lv : Value} {S : Nat → Prop} (h : BxC W b c lv) (hm : Moved S W W') (hb : ¬ S b) (hl : ∀ j, lv.ownBlock = some j → ¬ S j) : BxC W' b c lv := by
  refine ⟨⟨Val.cell_moved h.1.1 hm hb, Val.cell_moved h.1.2 hm hb⟩, ?_⟩
  rcases h.2 with h2 | ⟨g, o, c, h0, h1, h2, h3⟩
  · exact .inl h2
  · exact .inr ⟨g, o, c, Nat.lt_of_lt_of_le h0 hm.size, h1, h2, Val.rangeAt_heap h3 (hm.block g h0 (hl g (by rw [h1]; rfl)))⟩
theorem VL.of {w : World} {fs : List Fd} {cv : Value} {l : List Int} {m : Nat} {out : Value} {ps : List (Vl × Value)} {W : World} (h : VsJ w fs cv l m fs.length out ps W) {B : Nat} (hB : B ≤ w.heap.size + 1) : VL B ps out W :=
  ⟨by rw [← h.len]; exact ownsRow_base h.row hB, fun p hp => ⟨(h.each p hp).1, (h.each p hp).2.1, fun j hj => by have := ((h.each p hp).2.2 j hj).1; omega⟩, fun e => h.nil (by rw [h.len]; exact e)⟩
theorem VL.later {B : Nat} {ps : List (Vl × Value)} {vv : Value} {W W' : World} (h : VL B ps vv W) (hB : Below W.heap.size W W') : VL B ps vv W' :=
  ⟨Kit.ownsRow_kept h.row (fun j hj => hB.block j (h.row.lt j hj).2), fun p hp => ⟨(h.each p hp).1, ((h.each p hp).2.1.below hB (Nat.le_refl _)).mono hB.size, (h.each p hp).2.2⟩, h.nil⟩
theorem VL.rep {B : Nat} {ps : List (Vl × Value)} {vv : Value} {W : World} (h : VL B ps vv W) : RepL W.heap.size W (ps.map (·.1)) vv := repL_pairs h.row rfl (fun p hp => (h.each p hp).2.1) h.nil
theorem VL.pl {B : Nat} {ps : List (Vl × Value)} {g cap : Nat} {W : World} (h : VL B ps (.slice (some ⟨g, 0, none⟩) ps.length cap) W) : PL W ps g 0 cap := by
  rcases h.row.2 with ⟨h1, _⟩ | ⟨g', cap', cur, h1, h2⟩
  · cases h1
  · cases h1
    exact ⟨(h.row.lt g rfl).2, fun j u hu => by have := h.row.cells (g := g) rfl j u hu; rw [Addr.add_mid] at this; exact this, h2.2.2.1, h2.2.2.2.1, fun p hp => (h.each p hp).2.1⟩
theorem PL.take {W : World} {ps : List (Vl × Value)} {b o c : Nat} (h : PL W ps b o c) (k : Nat) : PL W (ps.take k) b o c := by
  refine ⟨h.lt, fun j u hu => h.row j u ?_, by rw [List.length_take]; have := h.le; omega, h.cap, fun p hp => h.each p (List.mem_of_mem_take hp)⟩
  rw [← List.take_append_drop k ps, List.flatMap_append, List.getElem?_append_left (List.getElem?_eq_some_iff.1 hu).1]
  exact hu
theorem PL.part {W : World} {ps : List (Vl × Value)} {b o c : Nat} (h : PL W ps b o c) {k : Nat} (hk : k ≤ ps.length) : RepW W.heap.size W ((ps.map (·.1)).take k) (.slice (some ⟨b, o, none⟩) k c) := by
  by_cases h0 : k = 0
  · subst h0
    exact .inr ⟨rfl, _, _, rfl⟩
  · have h1 := (h.take k).rep (by rw [List.length_take]; omega)
    rw [List.length_take, Nat.min_eq_left hk, List.map_take] at h1
    exact .inl h1

theorem CpV.at {w : World} {ps : List (Vl × Value)} {g cap : Nat} {W : World} (h : CpV w ps g cap W) {i : Nat} {p : Vl × Value} (hp : ps[i]? = some p) :
    (W.cell? ⟨g, i * 4, none⟩ = some (.int .i64 p.1.k) ∧ W.cell? ⟨g, i * 4 + 1, none⟩ = some (.int .i64 p.1.n) ∧ W.cell? ⟨g, i * 4 + 2, none⟩ = some (.string p.1.s) ∧ W.cell? ⟨g, i * 4 + 3, none⟩ = some p.2) ∧ ∀ j, W.frozen? ⟨g, j, none⟩ = false := by
  have h1 := h.pl.at hp
  simp only [Nat.zero_add] at h1
  exact ⟨h1, fun j => Kit.ownsRow_frozen h.row rfl j⟩
/-- One value of the copy is another one. -/
theorem CpV.put {w : World} {ps : List (Vl × Value)} {g cap : Nat} {W : World} (h : CpV w ps g cap W) {i : Nat} {x : Vl × Value} (z : Vl) (lz : Value) (hx : ps[i]? = some x) (hy : RepL w.heap.size w z.l lz) :
    CpV w (ps.set i (z, lz)) g cap ((((W.setCell ⟨g, i * 4, none⟩ (.int .i64 z.k)).setCell ⟨g, i * 4 + 1, none⟩ (.int .i64 z.n)).setCell ⟨g, i * 4 + 2, none⟩ (.string z.s)).setCell ⟨g, i * 4 + 3, none⟩ lz) := h.set (y := (z, lz)) hx hy
theorem CpV.begins {w w' : World} {ps : List (Vl × Value)} {vb vo vc : Nat} {v : Value} {n : Nat} (hP : PL w ps vb vo vc) (hn : ps.length = n) (h0 : 0 < n) (hg : w.grownBy w' none) (hown : w'.ownsRow w.heap.size 31 4 v (0 + n) ([] ++ ps.flatMap cellsP)) : ∃ g cap, v = .slice (some ⟨g, 0, none⟩) n cap ∧ CpV w ps g cap w' := by
  rw [Nat.zero_add, List.nil_append] at hown
  obtain ⟨g, cap, rfl⟩ := ownsRow_pos hown h0
  subst hn
  exact ⟨g, cap, rfl, hown, (Kit.Moved.of_grownBy hg).below (fun j hj => by cases hj) (Nat.le_refl _), fun p hp => hP.each p hp⟩
theorem CpV.rep {w : World} {ps : List (Vl × Value)} {g cap : Nat} {W : World} (h : CpV w ps g cap W) {n : Nat} (hn : ps.length = n) (h0 : 0 < n) {vs : List Vl} (hv : ps.map (·.1) = vs) : RepL W.heap.size W vs (.slice (some ⟨g, 0, none⟩) n cap) := by
  subst hn hv
  exact h.pl.rep h0
theorem CpV.drew {w : World} {ps : List (Vl × Value)} {g cap : Nat} {W : World} (h : CpV w ps g cap W) : CpV w ps g cap W.drew := ⟨Kit.ownsRow_kept h.row fun _ _ => rfl, h.below.drew, h.each⟩
/-- What lies in memory: the boxes of the law's arguments. -/
structure ChkJ (w : World) (x : Raw4) (xlv : Value) (O : Cl) (olv : Value) (k n : Int) (s : ByteArray) (zl : Value) (W : World) : Prop where
  x0 : W.cell? ⟨w.heap.size, 0, none⟩ = some (.int .i64 x.n)
  x1 : W.cell? ⟨w.heap.size, 1, none⟩ = some xlv
  o0 : W.cell? ⟨w.heap.size + 1, 0, none⟩ = some (.string O.nm)
  o1 : W.cell? ⟨w.heap.size + 1, 1, none⟩ = some olv
  v : BoxF W (w.heap.size + 2) (.int .i64 k) (.int .i64 n) (.string s) zl
  below : Below w.heap.size w W
theorem ChkJ.later {w : World} {x : Raw4} {xlv : Value} {O : Cl} {olv : Value} {k n : Int} {s : ByteArray} {zl : Value} {W W' : World} (h : ChkJ w x xlv O olv k n s zl W) (hB : Below W.heap.size W W') : ChkJ w x xlv O olv k n s zl W' :=
  ⟨(hB.cell (p := ⟨w.heap.size, 0, none⟩) (Kit.lt_of_cell h.x0)).trans h.x0, (hB.cell (p := ⟨w.heap.size, 1, none⟩) (Kit.lt_of_cell h.x1)).trans h.x1, (hB.cell (p := ⟨w.heap.size + 1, 0, none⟩) (Kit.lt_of_cell h.o0)).trans h.o0, (hB.cell (p := ⟨w.heap.size + 1, 1, none⟩) (Kit.lt_of_cell h.o1)).trans h.o1, h.v.moved (Kit.Moved.of_below hB) (by have := h.v.c.1; have := Kit.lt_of_cell this; dsimp only at this; omega), next h.below hB⟩
theorem ChkJ.begins (w : World) (x : Raw4) (xlv : Value) (O : Cl) (olv : Value) (k n : Int) (s : ByteArray) (zl : Value) : ChkJ w x xlv O olv k n s zl (((w.alloc (.cells #[.int .i64 x.n, xlv] 24)).alloc (.cells #[.string O.nm, olv] 27)).alloc (.cells #[.int .i64 k, .int .i64 n, .string s, zl] 31)) := by
  have h0 := Kit.cell_new (w.alloc (.cells #[.int .i64 x.n, xlv] 24)) #[.string O.nm, olv] 27 0 rfl
  have h1 := Kit.cell_new (w.alloc (.cells #[.int .i64 x.n, xlv] 24)) #[.string O.nm, olv] 27 1 rfl
  have hv := boxF_new ((w.alloc (.cells #[.int .i64 x.n, xlv] 24)).alloc (.cells #[.string O.nm, olv] 27)) (.int .i64 k) (.int .i64 n) (.string s) zl 31
  simp only [World.size_alloc] at h0 h1 hv
  exact ⟨Kit.cell_kept _ (Kit.cell_kept _ (Kit.cell_new w #[.int .i64 x.n, xlv] 24 0 rfl)), Kit.cell_kept _ (Kit.cell_kept _ (Kit.cell_new w #[.int .i64 x.n, xlv] 24 1 rfl)), Kit.cell_kept _ h0, Kit.cell_kept _ h1, hv, (Kit.below_alloc2 w _ _).alloc (by simp; omega) _⟩
theorem setv_moved (n : Nat) (W : World) (v2 v3 : Value) : Moved (fun j => j = n) W ((W.setCell ⟨n, 2, none⟩ v2).setCell ⟨n, 3, none⟩ v3) :=
  (Moved.setCell (fun j => j = n) W ⟨n, 2, none⟩ v2 rfl).trans (Moved.setCell (fun j => j = n) _ ⟨n, 3, none⟩ v3 rfl) (fun _ _ h => h)
theorem ChkJ.fix {w : World} {x : Raw4} {xlv : Value} {O : Cl} {olv : Value} {k n : Int} {s : ByteArray} {zl : Value} {W : World} (h : ChkJ w x xlv O olv k n s zl W) (s' : ByteArray) : ChkJ w x xlv O olv k n s' (.slice none 0 0) ((W.setCell ⟨w.heap.size + 2, 2, none⟩ (.string s')).setCell ⟨w.heap.size + 2, 3, none⟩ (.slice none 0 0)) := by
  have hm := setv_moved (w.heap.size + 2) W (.string s') (.slice none 0 0)
  obtain ⟨⟨v0, v1, v2, v3⟩, vf⟩ := h.v
  refine ⟨Val.cell_moved h.x0 hm (by omega), Val.cell_moved h.x1 hm (by omega), Val.cell_moved h.o0 hm (by omega), Val.cell_moved h.o1 hm (by omega), ⟨⟨?_, ?_, ?_, ?_⟩, fun i => ?_⟩, h.below.trans (hm.below (fun j hj => by omega) h.below.size)⟩
  · rw [World.cell?_setCell_other _ _ _ _ (by simp), World.cell?_setCell_other _ _ _ _ (by simp)]; exact v0
  · rw [World.cell?_setCell_other _ _ _ _ (by simp), World.cell?_setCell_other _ _ _ _ (by simp)]; exact v1
  · rw [World.cell?_setCell_other _ _ _ _ (by simp)]; exact World.cell?_setCell_same _ _ _ v2
  · exact World.cell?_setCell_same _ _ _ ((World.cell?_setCell_other _ _ _ _ (by simp)).trans v3)
  · rw [World.frozen?_setCell, World.frozen?_setCell]; exact vf i

/-- A list of values that Check is asked for. -/
def Ask (W : World) (xv : Value) : Prop := ∃ (X : List Vl) (a : Option Addr) (c : Nat), xv = .slice a X.length c ∧ (∀ y ∈ X, y.fits) ∧ RepW W.heap.size W X xv
/-- The two classes. -/
def Two (W : World) (D : Nat) : Prop := ∀ k, k < 2 → ∃ (K : Cl) (a : Option Addr) (c : Nat), W.cell? ⟨D, k * 2, none⟩ = some (.string K.nm) ∧ W.cell? ⟨D, k * 2 + 1, none⟩ = some (.slice a K.l.length c) ∧ K.fits ∧ FdL W.heap.size W K.l (.slice a K.l.length c)
theorem Two.later {W W' : World} {D : Nat} (h : Two W D) (hB : Below W.heap.size W W') : Two W' D := fun k hk => by
  obtain ⟨K, a, c, h1, h2, h3, h4⟩ := h k hk
  exact ⟨K, a, c, (hB.cell (p := ⟨D, k * 2, none⟩) (Kit.lt_of_cell h1)).trans h1, (hB.cell (p := ⟨D, k * 2 + 1, none⟩) (Kit.lt_of_cell h2)).trans h2, h3, (h4.below hB (Nat.le_refl _)).mono hB.size⟩
theorem Ask.later {W W' : World} {xv : Value} (h : Ask W xv) (hB : Below W.heap.size W W') : Ask W' xv := by
  obtain ⟨X, a, c, h1, h2, h3⟩ := h
  exact ⟨X, a, c, h1, h2, (h3.below hB (Nat.le_refl _)).mono hB.size⟩
theorem Ask.of {W : World} {X : List Vl} {xv : Value} (h2 : ∀ y ∈ X, y.fits) (h3 : RepW W.heap.size W X xv) : Ask W xv := by
  obtain ⟨a, c, h, -⟩ := h3.len
  exact ⟨X, a, c, h, h2, h3⟩
theorem cut70_size (s : ByteArray) : (s.extract 0 (min (s.size : Int) 70).toNat).size ≤ 70 := by rw [ByteArray.size_extract]; omega
theorem four_cells {W : World} {b : Nat} {v0 v1 v2 v3 : Value} {P : Value → Prop} (h : W.cell? ⟨b, 0, none⟩ = some v0 ∧ W.cell? ⟨b, 1, none⟩ = some v1 ∧ W.cell? ⟨b, 2, none⟩ = some v2 ∧ W.cell? ⟨b, 3, none⟩ = some v3) (p0 : P v0) (p1 : P v1) (p2 : P v2) (p3 : P v3) : ∀ j, j < 4 → ∃ u, W.cell? ⟨b, j, none⟩ = some u ∧ P u := by
  intro j hj
  match j, hj with
  | 0, _ => exact ⟨_, h.1, p0⟩
  | 1, _ => exact ⟨_, h.2.1, p1⟩
  | 2, _ => exact ⟨_, h.2.2.1, p2⟩
  | 3, _ => exact ⟨_, h.2.2.2, p3⟩

set_option maxRecDepth 100000 in
set_option maxHeartbeats 8000000 in
theorem checks4_any (ae : Addr) (x : Raw4) (hx : x.Ok) (O : Cl) (hO : O.fits) (l : List Int) (hlb : ∀ y ∈ l, -9223372036854775808 ≤ y ∧ y ≤ 9223372036854775807) (at_ : Int) (a1 : -9223372036854775808 ≤ at_) (a2 : at_ ≤ 9223372036854775807) (vk vn : Int) (vs : ByteArray) (va : Option Addr) (vl vc : Nat) (w : World) (xlv olv lv : Value) (hl : FRawL w x.l xlv) (ho : FdC w O.l olv) (hi : IntsL w l lv) (hE : Env ae w) :
    Calls Tryd.prog 3 #[.agg #[.int .i64 x.n, xlv], .agg #[.string O.nm, olv], lv, .int .i64 at_, .agg #[.int .i64 vk, .int .i64 vn, .string vs, .slice va vl vc]] w fun e w' => e = .returned (.bool true) ∧ Below w.heap.size w w' := by
  have hr := classOf_right x
  have hOf := fun W (h : Below w.heap.size w W) => ClassOf_any x hx W xlv (hl.below h)
  generalize classOf x = V at *
  have h8 := ((clsR_iff V).1 hr).2.1
  have hVf : V.fits := cls_fits hr
  have HE := Lib.hid (fun W (h : Below w.heap.size w W) => hE.below h)
  have HOf := Lib.hid hOf
  have HI := Lib.hid (fun W (h : Below w.heap.size w W) => hi.below h)
  have HV := Lib.hid (fun W (h : Below w.heap.size w W) cv (hc : FdL W.heap.size W V.l cv) => valsOf_anyJ V (fun f hf => by obtain ⟨i, hi⟩ := List.getElem?_of_mem hf; exact cls_ty hr hi) h8 l hlb 3 (by decide) W cv lv hc (hi.below h))
  have HC := Lib.hid (fun (c : Cl) (vs : List Vl) (hs : ∀ y ∈ vs, y.fits) W (h : Below w.heap.size w W) cv vv (hc : FdL W.heap.size W c.l cv) (hv : RepW W.heap.size W vs vv) => check_anyW ae c vs hs W.heap.size W cv vv (Nat.le_refl _) (hE.below h) hc hv)
  have HRC := Lib.hid (fun (c : Cl) (hf : c.fits) (vs : List Vl) (hs : ∀ y ∈ vs, y.fits) W cv vv (hc : FdL W.heap.size W c.l cv) (hv : RepW W.heap.size W vs vv) => refCheck_any c hf vs hs W.heap.size W cv vv (Nat.le_refl _) hc hv)
  have HCut := Lib.hid (fun W (h : Below w.heap.size w W) => cut_any O hO W olv (FdC.below ho h))
  have HP := Lib.hid (fun (n : Nat) (hn : 0 < n) (hn2 : n ≤ 1000) W => pick4_any at_ a1 a2 n hn (by omega) W)
  have HVF := Lib.hid hVf
  obtain ⟨xa, xc, rfl, -⟩ := hl.len
  obtain ⟨la, lc, rfl, -⟩ := hi.len
  obtain ⟨oa, oc, rfl⟩ := ho.len
  have J0 := Lib.hid (ChkJ.begins w x (.slice xa x.l.length xc) O (.slice oa O.l.length oc) vk vn vs (.slice va vl vc))
  have hvz := cut70_size vs
  clear hE hOf hl hi ho hx hr hlb hVf hO a1 a2
  go_enter Tryd.func3, Tryd.ntmps3
  go_upto_region 1 with fail
  generalize ((w.alloc (.cells #[.int .i64 x.n, .slice xa x.l.length xc] 24)).alloc (.cells #[.string O.nm, .slice oa O.l.length oc] 27)).alloc (.cells #[.int .i64 vk, .int .i64 vn, .string vs, .slice va vl vc] 31) = W0 at *
  go_wp2_with fail
  refine (examples_any ae _ (HE.out _ J0.out.below)).mono ?_
  rintro e W1 ⟨rfl, hB⟩
  have J1 := Lib.hid (J0.out.later hB)
  clear hB J0
  have p1 := J1.out.x0
  have p2 := J1.out.x1
  go_wp2_with fail
  refine (HOf.out _ J1.out.below).mono ?_
  rintro e W2 ⟨⟨cv, rfl, hcv, hfv⟩, hB⟩
  obtain ⟨ca, cc, rfl, -⟩ := hcv.len
  have hw1 : w.heap.size + 3 ≤ W1.heap.size := by have := J1.out.v.c.1; have := Kit.lt_of_cell this; dsimp only at this; omega
  have HCF := Lib.hid (show ∀ j, (Value.slice ca V.l.length cc).ownBlock = some j → ¬ j = w.heap.size + 2 from fun j hj => by have := hfv j hj; omega)
  have A2 := Lib.hid (BxC.new W2 V _ hcv)
  have J2 := Lib.hid ((J1.out.later hB).later (Kit.below_alloc W2 (.cells #[.string V.nm, .slice ca V.l.length cc] 27)))
  have hbc : w.heap.size + 3 ≤ W2.heap.size := by have := hB.size; omega
  clear hB hcv hfv hw1 p1 p2 J1 HOf
  obtain ⟨p1, p2⟩ := A2.out.1
  go_wp2_with fail
  refine (HV.out _ J2.out.below _ A2.out.2).mono ?_
  rintro e W3 ⟨ov, rfl, ps, hJ⟩
  have A3 := Lib.hid (A2.out.later hJ.below)
  have J3 := Lib.hid (J2.out.later hJ.below)
  have O3 := Lib.hid (VL.of hJ (B := w.heap.size + 3) (by rw [World.size_alloc]; omega))
  have HPS := Lib.hid (show ps.map (·.1) = valsOf V.l l 3 from hJ.vals)
  have HN8 := Lib.hid (show ps.length ≤ 8 from by have := hJ.len; omega)
  clear hJ p1 p2 A2 J2 HV
  obtain ⟨na, nc, rfl⟩ : ∃ na nc, ov = .slice na ps.length nc := by
    obtain ⟨a, c, h, -⟩ := O3.out.rep.len
    rw [List.length_map] at h
    exact ⟨a, c, h⟩
  obtain ⟨⟨v0, v1, v2, v3⟩, vf⟩ := J3.out.v
  have f2 := vf 2
  have f3 := vf 3
  have m1 : (0 : Int) ≤ min (vs.size : Int) 70 := by omega
  have m2 : min (vs.size : Int) 70 ≤ (vs.size : Int) := by omega
  clear vf
  go_upto_region 8 with fail
  have J4 := Lib.hid (J3.out.fix (vs.extract 0 (min (vs.size : Int) 70).toNat))
  have O4 := Lib.hid (O3.out.moved (setv_moved (w.heap.size + 2) W3 (.string (vs.extract 0 (min (vs.size : Int) 70).toNat)) (.slice none 0 0)) (fun k hk => by omega))
  have A4 := Lib.hid (A3.out.moved (setv_moved (w.heap.size + 2) W3 (.string (vs.extract 0 (min (vs.size : Int) 70).toNat)) (.slice none 0 0)) (by omega) HCF.out)
  generalize vs.extract 0 (min (vs.size : Int) 70).toNat = s70 at *
  generalize (W3.setCell ⟨w.heap.size + 2, 2, none⟩ (.string s70)).setCell ⟨w.heap.size + 2, 3, none⟩ (.slice none 0 0) = W4 at *
  obtain ⟨z, rfl, rfl, rfl, hzl⟩ : ∃ z : Vl, z.k = vk ∧ z.n = vn ∧ z.s = s70 ∧ z.l = [] := ⟨flat vk vn s70, rfl, rfl, rfl, rfl⟩
  have HZ := Lib.hid (And.intro hzl hvz)
  obtain ⟨i1, hi0, hz0, hz1, hz2⟩ := info_parts vInfo3
  clear v0 v1 v2 v3 f2 f3 J3 O3 A3 hzl hvz h8 m1 m2 HCF hbc
  go_cut [14] from 40 (fun v wx => (∃ ta tc, v = .slice ta ps.length tc) ∧ ((ps = [] ∧ v = .slice none 0 0 ∧ wx = W4) ∨ ∃ g c, v = .slice (some ⟨g, 0, none⟩) ps.length c ∧ 0 < ps.length ∧ CpV W4 ps g c wx))
  case first =>
    by_cases h0 : ps.length = 0
    · have hn := O4.out.nil h0
      obtain rfl : ps = [] := List.eq_nil_of_length_eq_zero h0
      cases hn
      clear h0
      go_wp2
      go_meet
      case rel => exact ⟨⟨none, 0, rfl⟩, .inl ⟨by trivial, rfl, rfl⟩⟩
    · have hpos : 0 < ps.length := by omega
      obtain ⟨g, cap, he⟩ := ownsRow_pos O4.out.row hpos
      obtain ⟨rfl, rfl⟩ : some ⟨g, 0, none⟩ = na ∧ cap = nc := by cases he; exact ⟨rfl, rfl⟩
      have P4 := Lib.hid O4.out.pl
      have hn8 := HN8.out
      clear h0 he
      go_wp2_with (at_builtin; refine wpList_append_own_at _ rfl _ _ 29 rfl W4.heap.size 31 i1 (.agg zero4.toArray) 4 56 Tryd.underlying29 hi0 hz0 hz1 hz2 rfl (by decide) (.slice none 0 0) 0 [] rfl (World.ownsRow_nil _ _ _ _) ⟨g, 0, none⟩ ps.length cap (ps.flatMap cellsP) rfl (cellsP_len _) P4.out.cells (cellsPs_one P4.out) (by unfold maxLen; omega) (by omega) (Nat.le_refl _) ?_; intro v8 W8 hown8 hg8 hn8 hat8; clear hn8 hat8; obtain ⟨ng, cc2, rfl, hcp⟩ := CpV.begins P4.out rfl hpos hg8 hown8; have n8 := Lib.hid hcp; clear hown8 hg8 hcp)
      go_meet
      case rel => exact ⟨⟨_, _, rfl⟩, .inr ⟨_, _, rfl, hpos, n8.out⟩⟩
  case rest =>
  obtain ⟨⟨t8, c8, rfl⟩, hS⟩ := hcut
  have HS8 := Lib.hid hS
  clear hS
  go_upto_if 44 with fail
  go_cut [14] from 42 (fun v wx => (∃ ta tc, v = .slice ta ps.length tc) ∧ Below W4.heap.size W4 wx ∧ RepL wx.heap.size wx ((valsOf V.l l 3).set (pickN at_ ps.length) z) v)
  case first =>
    rcases HS8.out with ⟨h0, he, hw⟩ | ⟨ng, cc2, he, hpos, hcp⟩
    · simp only [Value.slice.injEq] at he
      obtain ⟨rfl, hl0, rfl⟩ := he
      have i9 : ¬ (0 : Int) < (ps.length : Int) := by omega
      have HH := Lib.hid (And.intro h0 hl0)
      clear h0 hl0
      subst hw
      go_wp2
      go_meet
      case rel => exact ⟨⟨none, 0, rfl⟩, Below.refl _ _, .inl ⟨by rw [← HPS.out, HH.out.1]; rfl, by rw [HH.out.2]⟩⟩
    · obtain ⟨rfl, rfl⟩ : some ⟨ng, 0, none⟩ = t8 ∧ cc2 = c8 := by cases he; exact ⟨rfl, rfl⟩
      have n8 := Lib.hid hcp
      have hp1 := pickN_lt at_ (n := ps.length) hpos
      have hn8 := HN8.out
      have HPK := Lib.hid (fun W => HP.out ps.length hpos (by omega) W)
      have i9 : (0 : Int) < (ps.length : Int) := by omega
      obtain ⟨P, hP⟩ : ∃ P, P = pickN at_ ps.length := ⟨_, rfl⟩
      rw [← hP] at HPK hp1
      have HPP := Lib.hid hP
      have i10 : (P : Int) < (ps.length : Int) := by omega
      clear hP he hcp
      go_upto_region 10 with fail
      refine wp_region_held_drew (S := fun W => W.cell? ⟨w.heap.size + 2, 0, none⟩ = some (.int .i64 z.k) ∧ W.cell? ⟨w.heap.size + 2, 1, none⟩ = some (.int .i64 z.n) ∧ W.cell? ⟨w.heap.size + 2, 2, none⟩ = some (.string z.s) ∧ W.cell? ⟨w.heap.size + 2, 3, none⟩ = some (.slice none 0 0)) (by kernel_rfl) ((J4.out.later n8.out.below).later (Below.refl _ _).drew).v.c (fun hHeld => ?_)
      have n9 := Lib.hid n8.out.drew
      clear n8
      generalize wc.drew = W9 at *
      obtain ⟨pa, hpa⟩ : ∃ p, ps[P]? = some p := ⟨_, List.getElem?_eq_getElem hp1⟩
      obtain ⟨⟨y0, y1, y2, y3⟩, yf⟩ := n9.out.at hpa
      have f0 := yf (P * 4)
      have f1 := yf (P * 4 + 1)
      have f2 := yf (P * 4 + 2)
      have f3 := yf (P * 4 + 3)
      have HPA := Lib.hid hpa
      clear yf hpa
      refine wpAnyH_take (i := 0) (v := .slice (some ⟨ng, 0, none⟩) ps.length cc2) Kit.at0 (by kernel_rfl) (by kernel_rfl) (by kernel_rfl) (fun _ _ _ h => h) (Or.inl ⟨by rfl, fun w hw => ?_⟩) hHeld ?_
      case' refine_1 => go_simp
      try simp only [Act.put, List.setIfInBounds_toArray, List.set_cons_zero, List.set_cons_succ]
      refine wpAnyH_take (i := 1) (v := .int .i64 at_) Kit.at1 (by kernel_rfl) (by kernel_rfl) (by kernel_rfl) (fun _ _ _ h => h) (Or.inl ⟨by rfl, fun w hw => ?_⟩) hHeld ?_
      case' refine_1 => go_simp
      try simp only [Act.put, List.setIfInBounds_toArray, List.set_cons_zero, List.set_cons_succ]
      refine wpAnyH_take (i := 2) (v := .slice (some ⟨ng, 0, none⟩) ps.length cc2) Kit.at2 (by kernel_rfl) (by kernel_rfl) (by kernel_rfl) (fun _ _ _ h => h) (Or.inl ⟨by rfl, fun w hw => ?_⟩) hHeld ?_
      case' refine_1 => go_simp
      try simp only [Act.put, List.setIfInBounds_toArray, List.set_cons_zero, List.set_cons_succ]
      refine wpAnyH_take (i := 3) (v := .int .i64 (ps.length : Int)) Kit.at3 (by kernel_rfl) (by kernel_rfl) (by kernel_rfl) (fun _ _ _ h => h) (Or.inl ⟨by rfl, fun w hw => ?_⟩) hHeld ?_
      case' refine_1 => go_simp
      try simp only [Act.put, List.setIfInBounds_toArray, List.set_cons_zero, List.set_cons_succ]
      refine wpAnyH_take (i := 5) (v := aggV z.k z.n z.s (.slice none 0 0)) Kit.at5 (by kernel_rfl) (by kernel_rfl) (by kernel_rfl) (fun _ _ _ h => h) (Or.inl ⟨by rfl, fun w hw => ?_⟩) hHeld ?_
      case' refine_1 => obtain ⟨v0, v1, v2, v3⟩ := hw; go_simp
      try simp only [Act.put, List.setIfInBounds_toArray, List.set_cons_zero, List.set_cons_succ]
      refine wpAnyH_ready (rs := [4]) (by kernel_rfl) (by simp) ?_
      refine AllReadyH.cons Kit.at4 (fun K0 hK => ?_) AllReadyH.nil
      go_simp
      refine (HPK.out _).mono ?_; rintro e Wz ⟨rfl, rfl⟩
      refine hK.out _ _ (J4.out.later n9.out.below).v.c (fun hHeld => ?_)
      clear hK K0
      try simp only [Act.put, List.setIfInBounds_toArray, List.set_cons_zero, List.set_cons_succ]
      refine wpAnyH_take (i := 6) (v := .pointer (some ⟨ng, P * 4, none⟩)) Kit.at6 (by kernel_rfl) (by kernel_rfl) (by kernel_rfl) (fun _ _ _ h => h) (Or.inl ⟨by rfl, fun w hw => ?_⟩) hHeld ?_
      case' refine_1 => go_simp
      try simp only [Act.put, List.setIfInBounds_toArray, List.set_cons_zero, List.set_cons_succ]
      refine wpAnyH_ready (rs := [7]) (by kernel_rfl) (by simp) ?_
      refine AllReadyH.cons Kit.at7 (fun K0 hK => ?_) AllReadyH.nil
      go_simp
      have n10 : Hid (CpV W4 (ps.set P (z, .slice none 0 0)) ng cc2 ((((W9.setCell ⟨ng, P * 4, none⟩ (.int .i64 z.k)).setCell ⟨ng, P * 4 + 1, none⟩ (.int .i64 z.n)).setCell ⟨ng, P * 4 + 2, none⟩ (.string z.s)).setCell ⟨ng, P * 4 + 3, none⟩ (.slice none 0 0))) := Lib.hid (n9.out.put z (.slice none 0 0) HPA.out (.inl ⟨HZ.out.1, rfl⟩))
      refine hK.out _ _ (J4.out.later n10.out.below).v.c (fun _ => wpAnyH_done (by kernel_rfl) ?_ _)
      clear hK K0
      go_wp2
      go_meet
      case rel =>
        have h := n10.out.rep (n := ps.length) (by rw [List.length_set]) hpos (vs := (valsOf V.l l 3).set P z) (by rw [List.map_set, HPS.out])
        exact ⟨⟨_, _, rfl⟩, n10.out.below, by rw [← HPP.out]; exact h⟩
  case rest =>
    obtain ⟨⟨ta, tc, rfl⟩, hB, hT⟩ := hcut
    have J5 := Lib.hid (J4.out.later hB)
    have A5 := Lib.hid (A4.out.later hB)
    have O5 := Lib.hid (O4.out.later hB)
    have T5 := Lib.hid hT
    clear J4 A4 O4 hB hT
    obtain ⟨q1, q2⟩ := A5.out.1
    have q3 := J5.out.o0
    have q4 := J5.out.o1
    go_upto_region 11 with fail
    refine wp_region_held_drew (S := fun W => W.cell? ⟨W2.heap.size, 0, none⟩ = some (.string V.nm) ∧ W.cell? ⟨W2.heap.size, 1, none⟩ = some (.slice ca V.l.length cc) ∧ W.cell? ⟨w.heap.size + 1, 0, none⟩ = some (.string O.nm) ∧ W.cell? ⟨w.heap.size + 1, 1, none⟩ = some (.slice oa O.l.length oc)) (by kernel_rfl) ⟨q1, q2, q3, q4⟩ (fun hHeld => ?_)
    have J6 := Lib.hid (J5.out.later (Below.refl _ _).drew)
    have A6 := Lib.hid (A5.out.later (Below.refl _ _).drew)
    have O6 := Lib.hid (O5.out.later (Below.refl _ _).drew)
    have T6 := Lib.hid (show RepL wc.drew.heap.size wc.drew _ _ from T5.out.drew)
    clear J5 A5 O5 T5 q1 q2 q3 q4
    generalize wc.drew = W5 at *
    refine wpAnyH_take (i := 0) (v := .agg #[.string V.nm, .slice ca V.l.length cc]) Kit.at0 (by kernel_rfl) (by kernel_rfl) (by kernel_rfl) (fun _ _ _ h => h) (Or.inl ⟨by rfl, fun w hw => ?_⟩) hHeld ?_
    case' refine_1 => obtain ⟨q1, q2, q3, q4⟩ := hw; go_simp
    try simp only [Act.put, List.setIfInBounds_toArray, List.set_cons_zero, List.set_cons_succ]
    refine wpAnyH_take (i := 1) (v := .agg #[.string O.nm, .slice oa O.l.length oc]) Kit.at1 (by kernel_rfl) (by kernel_rfl) (by kernel_rfl) (fun _ _ _ h => h) (Or.inl ⟨by rfl, fun w hw => ?_⟩) hHeld ?_
    case' refine_1 => obtain ⟨q1, q2, q3, q4⟩ := hw; go_simp
    try simp only [Act.put, List.setIfInBounds_toArray, List.set_cons_zero, List.set_cons_succ]
    refine wpAnyH_take (i := 5) (v := .int .i64 0) Kit.at5 (by kernel_rfl) (by kernel_rfl) (by kernel_rfl) (fun _ _ _ h => h) (Or.inl ⟨by rfl, fun w hw => ?_⟩) hHeld ?_
    case' refine_1 => go_simp
    try simp only [Act.put, List.setIfInBounds_toArray, List.set_cons_zero, List.set_cons_succ]
    refine wpAnyH_ready (rs := [2]) (by kernel_rfl) (by simp) ?_
    refine AllReadyH.cons Kit.at2 (fun K0 hK => ?_) AllReadyH.nil
    go_simp
    refine (HCut.out _ J6.out.below).mono ?_; rintro e W6 ⟨⟨kv, rfl, hkv⟩, hB6⟩
    obtain ⟨ka, kc, rfl, -⟩ := hkv.len
    have J7 := Lib.hid (J6.out.later hB6)
    have A7 := Lib.hid (A6.out.later hB6)
    have O7 := Lib.hid (O6.out.later hB6)
    have T7 := Lib.hid ((T6.out.below hB6 (Nat.le_refl _)).mono hB6.size)
    have HK7 := Lib.hid hkv
    clear J6 A6 O6 T6 hkv hB6
    refine hK.out _ _ ⟨A7.out.1.1, A7.out.1.2, J7.out.o0, J7.out.o1⟩ (fun hHeld => ?_)
    clear hK K0
    try simp only [Act.put, List.setIfInBounds_toArray, List.set_cons_zero, List.set_cons_succ]
    refine wpAnyH_ready (rs := [3]) (by kernel_rfl) (by simp) ?_
    refine AllReadyH.cons Kit.at3 (fun K0 hK => ?_) AllReadyH.nil
    go_simp
    refine hK.out _ _ ⟨Kit.cell_kept _ A7.out.1.1, Kit.cell_kept _ A7.out.1.2, Kit.cell_kept _ J7.out.o0, Kit.cell_kept _ J7.out.o1⟩ (fun hHeld => ?_)
    clear hK K0
    try simp only [Act.put, List.setIfInBounds_toArray, List.set_cons_zero, List.set_cons_succ]
    refine wpAnyH_take (i := 4) (v := .int .i64 2) Kit.at4 (by kernel_rfl) (by kernel_rfl) (by kernel_rfl) (fun _ _ _ h => h) (Or.inl ⟨by rfl, fun w hw => ?_⟩) hHeld ?_
    case' refine_1 => go_simp
    try simp only [Act.put, List.setIfInBounds_toArray, List.set_cons_zero, List.set_cons_succ]
    refine wpAnyH_done (by kernel_rfl) ?_ _
    have D7 := Lib.hid (show Two (W6.alloc (.cells #[.string V.nm, .slice ca V.l.length cc, .string (cutC O).nm, .slice ka (cutC O).l.length kc] 27)) W6.heap.size from fun k hk => by
      have hA := Kit.below_alloc W6 (.cells #[.string V.nm, .slice ca V.l.length cc, .string (cutC O).nm, .slice ka (cutC O).l.length kc] 27)
      rcases (show k = 0 ∨ k = 1 by omega) with rfl | rfl
      · exact ⟨V, ca, cc, Kit.cell_new W6 _ _ 0 rfl, Kit.cell_new W6 _ _ 1 rfl, HVF.out, ((A7.out.2).below hA (Nat.le_refl _)).mono hA.size⟩
      · exact ⟨cutC O, ka, kc, Kit.cell_new W6 _ _ 2 rfl, Kit.cell_new W6 _ _ 3 rfl, cut_fits O, (HK7.out.below hA (Nat.le_refl _)).mono hA.size⟩)
    have J8 := Lib.hid (J7.out.later (Kit.below_alloc W6 (.cells #[.string V.nm, .slice ca V.l.length cc, .string (cutC O).nm, .slice ka (cutC O).l.length kc] 27)))
    have O8 := Lib.hid (O7.out.later (Kit.below_alloc W6 (.cells #[.string V.nm, .slice ca V.l.length cc, .string (cutC O).nm, .slice ka (cutC O).l.length kc] 27)))
    have T8 := Lib.hid ((T7.out.below (Kit.below_alloc W6 (.cells #[.string V.nm, .slice ca V.l.length cc, .string (cutC O).nm, .slice ka (cutC O).l.length kc] 27)) (Nat.le_refl _)).mono (Kit.below_alloc W6 (.cells #[.string V.nm, .slice ca V.l.length cc, .string (cutC O).nm, .slice ka (cutC O).l.length kc] 27)).size)
    clear J7 A7 O7 T7 HK7
    generalize W6.alloc (.cells #[.string V.nm, .slice ca V.l.length cc, .string (cutC O).nm, .slice ka (cutC O).l.length kc] 27) = W7 at *
    generalize W6.heap.size = D at *
    go_wp2_with fail
    go_loopw [57] (fun i wr => ∃ k : Nat, k ≤ 2 ∧ i = .int .i64 k ∧ Below W7.heap.size W7 wr) (fun i _ => 2 - (intOf i).toNat)
    case atStart => exact ⟨0, by omega, rfl, Below.refl _ _⟩
    case round =>
      obtain ⟨k, hk, rfl, hBr⟩ := hrel
      have J9 := Lib.hid (J8.out.later hBr)
      have D9 := Lib.hid (D7.out.later hBr)
      have O9 := Lib.hid (O8.out.later hBr)
      have T9 := Lib.hid ((T8.out.below hBr (Nat.le_refl _)).mono hBr.size)
      have B9 := Lib.hid hBr
      clear hBr J8 O8 T8 D7
      by_cases hlt : k < 2
      · obtain ⟨K, ka, kc, c1, c2, hKf, hKd⟩ := D9.out k hlt
        have i1' : (k : Int) < 2 := by omega
        have HK := Lib.hid (And.intro hKf hKd)
        clear hKf hKd
        go_upto_region 14 with fail
        have KB0 := Lib.hid (BxC.new wr K _ HK.out.2)
        have J10 := Lib.hid (J9.out.later (Kit.below_alloc wr (.cells #[.string K.nm, .slice ka K.l.length kc] 27)))
        have O10 := Lib.hid (O9.out.later (Kit.below_alloc wr (.cells #[.string K.nm, .slice ka K.l.length kc] 27)))
        have T10 := Lib.hid ((T9.out.below (Kit.below_alloc wr (.cells #[.string K.nm, .slice ka K.l.length kc] 27)) (Nat.le_refl _)).mono (Kit.below_alloc wr (.cells #[.string K.nm, .slice ka K.l.length kc] 27)).size)
        have B10 := Lib.hid (up B9.out (.cells #[.string K.nm, .slice ka K.l.length kc] 27))
        have hKF := Lib.hid HK.out.1
        clear J9 O9 T9 B9 HK c1 c2 D9
        generalize wr.alloc (.cells #[.string K.nm, .slice ka K.l.length kc] 27) = Wr at *
        generalize wr.heap.size = bd at *
        go_cut [57, 75, 76, 77] from 57 to 102 (fun s57 s75 s76 s77 wx => s57 = .int .i64 (k : Int) ∧ s76 = .int .i64 4 ∧ s77 = .int .i64 0 ∧ ∃ Y, s75 = .slice (some ⟨Y, 0, none⟩) 4 4 ∧ (∀ j, j < 4 → ∃ u, wx.cell? ⟨Y, j, none⟩ = some u ∧ Ask wx u) ∧ Below Wr.heap.size Wr wx)
        case first =>
          have HS := Lib.hid (fun W (h : Below Wr.heap.size Wr W) => (J10.out.later h).v.c)
          have hn8 := HN8.out
          have HPK := Lib.hid (fun W => HP.out (ps.length + 1) (by omega) (by omega) W)
          have hp1 := pickN_lt at_ (n := ps.length + 1) (by omega)
          obtain ⟨P, hP⟩ : ∃ P, P = pickN at_ (ps.length + 1) := ⟨_, rfl⟩
          rw [← hP] at HPK hp1
          have HX := Lib.hid (show ∀ y ∈ valsOf V.l l 3, y.fits from vals_sz V.l l 3)
          have HZF := Lib.hid (show z.fits from ⟨by have := HZ.out.2; omega, fun y hy => by rw [HZ.out.1] at hy; cases hy⟩)
          have HTF := Lib.hid (show ∀ y ∈ (valsOf V.l l 3).set (pickN at_ ps.length) z, y.fits from fun y hy => by
            rcases List.mem_or_eq_of_mem_set hy with h | rfl
            · exact HX.out y h
            · exact HZF.out)
          have BWD := Lib.hid ((Below.refl Wr.heap.size Wr).drew)
          have zf : z.isFlat := HZ.out.1
          have HZc := Lib.hid (show cellsF z = [.int .i64 z.k, .int .i64 z.n, .string z.s, .slice none 0 0] from rfl)
          clear hP
          by_cases h0 : ps.length = 0
          · have hps := HPS.out
            have hn := O10.out.nil h0
            obtain rfl : ps = [] := List.eq_nil_of_length_eq_zero h0
            cases hn
            clear h0
            have hP0 : P = 0 := by simp at hp1; exact hp1
            subst hP0
            have relN : ∀ (WZ : World) (g7 c7 : Nat), Hid (Below Wr.heap.size Wr WZ) → Hid (WZ.ownsRow Wr.heap.size 31 4 (.slice (some ⟨g7, 0, none⟩) 1 c7) 1 ([] ++ cellsF z)) → ∃ Y, Value.slice (some ⟨WZ.heap.size, 0, none⟩) 4 4 = .slice (some ⟨Y, 0, none⟩) 4 4 ∧ (∀ j, j < 4 → ∃ u, (WZ.alloc (.cells #[.slice none 0 0, .slice ta 0 tc, .slice (some ⟨g7, 0, none⟩) 1 c7, .slice none 0 0] 29)).cell? ⟨Y, j, none⟩ = some u ∧ Ask (WZ.alloc (.cells #[.slice none 0 0, .slice ta 0 tc, .slice (some ⟨g7, 0, none⟩) 1 c7, .slice none 0 0] 29)) u) ∧ Below Wr.heap.size Wr (WZ.alloc (.cells #[.slice none 0 0, .slice ta 0 tc, .slice (some ⟨g7, 0, none⟩) 1 c7, .slice none 0 0] 29)) := fun WZ g7 c7 hB hU => by
              have hA := Kit.below_alloc WZ (.cells #[.slice none 0 0, .slice ta 0 tc, .slice (some ⟨g7, 0, none⟩) 1 c7, .slice none 0 0] 29)
              have hBA := up hB.out (.cells #[.slice none 0 0, .slice ta 0 tc, .slice (some ⟨g7, 0, none⟩) 1 c7, .slice none 0 0] 29)
              have hnil : ∀ W, Ask W (.slice none 0 0) := fun W => ⟨[], none, 0, rfl, (by simp), .inl (.inl ⟨rfl, rfl⟩)⟩
              have hu : RepL WZ.heap.size WZ [z] (.slice (some ⟨g7, 0, none⟩) 1 c7) := Val.repL_own hU.out rfl (fun y hy => by rw [List.mem_singleton] at hy; rw [hy]; exact zf) (fun h => by cases h)
              exact ⟨_, rfl, four_cells (P := Ask _) ⟨Kit.cell_new WZ _ _ 0 rfl, Kit.cell_new WZ _ _ 1 rfl, Kit.cell_new WZ _ _ 2 rfl, Kit.cell_new WZ _ _ 3 rfl⟩ (hnil _) ((Ask.of HTF.out (.inl T10.out)).later hBA) ((Ask.of (X := [z]) (fun y hy => by rw [List.mem_singleton] at hy; rw [hy]; exact HZF.out) (.inl hu)).later hA) (hnil _), hBA⟩
            refine wp_region_held_drew (S := fun W => W.cell? ⟨w.heap.size + 2, 0, none⟩ = some (.int .i64 z.k) ∧ W.cell? ⟨w.heap.size + 2, 1, none⟩ = some (.int .i64 z.n) ∧ W.cell? ⟨w.heap.size + 2, 2, none⟩ = some (.string z.s) ∧ W.cell? ⟨w.heap.size + 2, 3, none⟩ = some (.slice none 0 0)) (by kernel_rfl) (HS.out _ BWD.out) (fun hHeld => ?_)
            have hw1 : IntKind.i64.wrap (1 : Int) = 1 := by rw [IntKind.wrap_i64]; omega
            generalize Wr.drew = WD at *
            refine wpAnyH_take (i := 0) (v := .slice none 0 0) Kit.at0 (by kernel_rfl) (by kernel_rfl) (by kernel_rfl) (fun _ _ _ h => h) (Or.inl ⟨by rfl, fun w hw => ?_⟩) hHeld ?_
            case' refine_1 => go_simp
            try simp only [Act.put, List.setIfInBounds_toArray, List.set_cons_zero, List.set_cons_succ]
            refine wpAnyH_take (i := 2) (v := .slice none 0 0) Kit.at2 (by kernel_rfl) (by kernel_rfl) (by kernel_rfl) (fun _ _ _ h => h) (Or.inl ⟨by rfl, fun w hw => ?_⟩) hHeld ?_
            case' refine_1 => go_simp
            try simp only [Act.put, List.setIfInBounds_toArray, List.set_cons_zero, List.set_cons_succ]
            refine wpAnyH_take (i := 7) (v := .slice none 0 0) Kit.at7 (by kernel_rfl) (by kernel_rfl) (by kernel_rfl) (fun _ _ _ h => h) (Or.inl ⟨by rfl, fun w hw => ?_⟩) hHeld ?_
            case' refine_1 => go_simp
            try simp only [Act.put, List.setIfInBounds_toArray, List.set_cons_zero, List.set_cons_succ]
            refine wpAnyH_take (i := 9) (v := .slice none 0 0) Kit.at9 (by kernel_rfl) (by kernel_rfl) (by kernel_rfl) (fun _ _ _ h => h) (Or.inl ⟨by rfl, fun w hw => ?_⟩) hHeld ?_
            case' refine_1 => go_simp
            try simp only [Act.put, List.setIfInBounds_toArray, List.set_cons_zero, List.set_cons_succ]
            refine wpAnyH_take (i := 1) (v := .slice ta 0 tc) Kit.at1 (by kernel_rfl) (by kernel_rfl) (by kernel_rfl) (fun _ _ _ h => h) (Or.inl ⟨by rfl, fun w hw => ?_⟩) hHeld ?_
            case' refine_1 => go_simp
            try simp only [Act.put, List.setIfInBounds_toArray, List.set_cons_zero, List.set_cons_succ]
            refine wpAnyH_take (i := 16) (v := .int .i64 0) Kit.at16 (by kernel_rfl) (by kernel_rfl) (by kernel_rfl) (fun _ _ _ h => h) (Or.inl ⟨by rfl, fun w hw => ?_⟩) hHeld ?_
            case' refine_1 => go_simp
            try simp only [Act.put, List.setIfInBounds_toArray, List.set_cons_zero, List.set_cons_succ]
            refine wpAnyH_take (i := 4) (v := aggV z.k z.n z.s (.slice none 0 0)) Kit.at4 (by kernel_rfl) (by kernel_rfl) (by kernel_rfl) (fun _ _ _ h => h) (Or.inl ⟨by rfl, fun w hw => ?_⟩) hHeld ?_
            case' refine_1 => obtain ⟨v0, v1, v2, v3⟩ := hw; go_simp
            try simp only [Act.put, List.setIfInBounds_toArray, List.set_cons_zero, List.set_cons_succ]
            refine wpAnyH_take (i := 8) (v := .int .i64 at_) Kit.at8 (by kernel_rfl) (by kernel_rfl) (by kernel_rfl) (fun _ _ _ h => h) (Or.inl ⟨by rfl, fun w hw => ?_⟩) hHeld ?_
            case' refine_1 => go_simp
            try simp only [Act.put, List.setIfInBounds_toArray, List.set_cons_zero, List.set_cons_succ]
            refine wpAnyH_take (i := 10) (v := .int .i64 0) Kit.at10 (by kernel_rfl) (by kernel_rfl) (by kernel_rfl) (fun _ _ _ h => h) (Or.inl ⟨by rfl, fun w hw => ?_⟩) hHeld ?_
            case' refine_1 => go_simp
            try simp only [Act.put, List.setIfInBounds_toArray, List.set_cons_zero, List.set_cons_succ]
            refine wpAnyH_take (i := 11) (v := .int .i64 1) Kit.at11 (by kernel_rfl) (by kernel_rfl) (by kernel_rfl) (fun _ _ _ h => h) (Or.inl ⟨by rfl, fun w hw => ?_⟩) hHeld ?_
            case' refine_1 => go_simp
            try simp only [Act.put, List.setIfInBounds_toArray, List.set_cons_zero, List.set_cons_succ]
            refine wpAnyH_ready (rs := [3, 5]) (by kernel_rfl) (by simp) ?_
            refine AllReadyH.cons Kit.at3 (fun K0 hK => ?q3) (AllReadyH.cons Kit.at5 (fun K0 hK => ?q4) AllReadyH.nil)
            case' q3 =>
              go_simp
              refine hK.out _ _ (HS.out _ BWD.out) (fun hHeld => ?_)
              clear hK K0
              try simp only [Act.put, List.setIfInBounds_toArray, List.set_cons_zero, List.set_cons_succ]
              refine wpAnyH_ready (rs := [5]) (by kernel_rfl) (by simp) ?_
              refine AllReadyH.cons Kit.at5 (fun K0 hK => ?_) AllReadyH.nil
              have BX0 := Lib.hid (BWD.out.trans ((Kit.below_alloc WD (.cells (cellsF z).toArray 31)).mono BWD.out.size))
              have CX0 := Lib.hid (newV WD z)
              refine Kit.step_buildSlice_one rfl 29 31 _ rfl (cellsF z) rfl i1 _ Tryd.underlying29 hi0 hz0 (hz1.trans rfl) (by rw [cellsF_len]; decide) (by rw [cellsF_len]; decide) ?_
              refine hK.out _ _ (HS.out _ BX0.out) (fun hHeld => ?_)
              clear hK K0
              try simp only [Act.put, List.setIfInBounds_toArray, List.set_cons_zero, List.set_cons_succ]
              generalize WD.alloc (.cells (cellsF z).toArray 31) = X0 at *
              generalize WD.heap.size = T at *
              refine wpAnyH_ready (rs := [6]) (by kernel_rfl) (by simp) ?_
              refine AllReadyH.cons Kit.at6 (fun K0 hK => ?_) AllReadyH.nil
              refine Kit.step_append_own_at rfl _ _ 29 rfl Wr.heap.size 31 i1 (.agg zero4.toArray) 4 56 Tryd.underlying29 hi0 hz0 hz1 hz2 rfl (by decide) (.slice none 0 0) 0 [] rfl (World.ownsRow_nil _ _ _ _) ⟨T, 0, none⟩ 1 1 (cellsF z) rfl (Val.cellsF_len z) CX0.out (Val.cellsF_one z) (by unfold maxLen; omega) (by omega) BX0.out.size ?_
              intro v7 X1 hown7 hg7 hat7; rw [Nat.zero_add] at hown7; obtain ⟨g7, c7, rfl⟩ := ownsRow_pos hown7 (by decide)
              have BX1 := Lib.hid (BX0.out.trans ((Kit.Moved.of_grownBy hg7).below (fun j hj => by cases hj) BX0.out.size))
              have UX1 := Lib.hid hown7
              clear hown7 hg7 hat7
              refine hK.out _ _ (HS.out _ BX1.out) (fun hHeld => ?_)
              clear hK K0
              try simp only [Act.put, List.setIfInBounds_toArray, List.set_cons_zero, List.set_cons_succ]
              refine wpAnyH_ready (rs := [12]) (by kernel_rfl) (by simp) ?_
              refine AllReadyH.cons Kit.at12 (fun K0 hK => ?_) AllReadyH.nil
              go_simp
              refine (HPK.out _).mono ?_; rintro e Wz ⟨rfl, rfl⟩
              refine hK.out _ _ (HS.out _ BX1.out) (fun hHeld => ?_)
              clear hK K0
              try simp only [Act.put, List.setIfInBounds_toArray, List.set_cons_zero, List.set_cons_succ]
              refine wpAnyH_take (i := 13) (v := .slice none 0 0) Kit.at13 (by kernel_rfl) (by kernel_rfl) (by kernel_rfl) (fun _ _ _ h => h) (Or.inl ⟨by rfl, fun w hw => ?_⟩) hHeld ?_
              case' refine_1 => go_simp
              try simp only [Act.put, List.setIfInBounds_toArray, List.set_cons_zero, List.set_cons_succ]
              obtain ⟨BZ, UZ⟩ := And.intro BX1 UX1
              generalize X1 = WZ at *
              refine wpAnyH_ready (rs := [14]) (by kernel_rfl) (by simp) ?_
              refine AllReadyH.cons Kit.at14 (fun K0 hK => ?_) AllReadyH.nil
              go_simp
              refine hK.out _ _ (HS.out _ (BZ.out.trans ((Kit.below_alloc WZ _).mono BZ.out.size))) (fun hHeld => ?_)
              clear hK K0
              try simp only [Act.put, List.setIfInBounds_toArray, List.set_cons_zero, List.set_cons_succ]
              refine wpAnyH_take (i := 15) (v := .int .i64 4) Kit.at15 (by kernel_rfl) (by kernel_rfl) (by kernel_rfl) (fun _ _ _ h => h) (Or.inl ⟨by rfl, fun w hw => ?_⟩) hHeld ?_
              case' refine_1 => go_simp
              try simp only [Act.put, List.setIfInBounds_toArray]
              refine wpAnyH_done (by kernel_rfl) ?_ _
              go_wp2
              go_meet
              case rel => exact ⟨rfl, rfl, rfl, relN WZ g7 c7 BZ UZ⟩
            case' q4 =>
              have BX0 := Lib.hid (BWD.out.trans ((Kit.below_alloc WD (.cells (cellsF z).toArray 31)).mono BWD.out.size))
              have CX0 := Lib.hid (newV WD z)
              refine Kit.step_buildSlice_one rfl 29 31 _ rfl (cellsF z) rfl i1 _ Tryd.underlying29 hi0 hz0 (hz1.trans rfl) (by rw [cellsF_len]; decide) (by rw [cellsF_len]; decide) ?_
              refine hK.out _ _ (HS.out _ BX0.out) (fun hHeld => ?_)
              clear hK K0
              try simp only [Act.put, List.setIfInBounds_toArray, List.set_cons_zero, List.set_cons_succ]
              generalize WD.alloc (.cells (cellsF z).toArray 31) = X0 at *
              generalize WD.heap.size = T at *
              refine wpAnyH_ready (rs := [3]) (by kernel_rfl) (by simp) ?_
              refine AllReadyH.cons Kit.at3 (fun K0 hK => ?_) AllReadyH.nil
              go_simp
              refine hK.out _ _ (HS.out _ BX0.out) (fun hHeld => ?_)
              clear hK K0
              try simp only [Act.put, List.setIfInBounds_toArray, List.set_cons_zero, List.set_cons_succ]
              refine wpAnyH_ready (rs := [6]) (by kernel_rfl) (by simp) ?_
              refine AllReadyH.cons Kit.at6 (fun K0 hK => ?_) AllReadyH.nil
              refine Kit.step_append_own_at rfl _ _ 29 rfl Wr.heap.size 31 i1 (.agg zero4.toArray) 4 56 Tryd.underlying29 hi0 hz0 hz1 hz2 rfl (by decide) (.slice none 0 0) 0 [] rfl (World.ownsRow_nil _ _ _ _) ⟨T, 0, none⟩ 1 1 (cellsF z) rfl (Val.cellsF_len z) CX0.out (Val.cellsF_one z) (by unfold maxLen; omega) (by omega) BX0.out.size ?_
              intro v7 X1 hown7 hg7 hat7; rw [Nat.zero_add] at hown7; obtain ⟨g7, c7, rfl⟩ := ownsRow_pos hown7 (by decide)
              have BX1 := Lib.hid (BX0.out.trans ((Kit.Moved.of_grownBy hg7).below (fun j hj => by cases hj) BX0.out.size))
              have UX1 := Lib.hid hown7
              clear hown7 hg7 hat7
              refine hK.out _ _ (HS.out _ BX1.out) (fun hHeld => ?_)
              clear hK K0
              try simp only [Act.put, List.setIfInBounds_toArray, List.set_cons_zero, List.set_cons_succ]
              refine wpAnyH_ready (rs := [12]) (by kernel_rfl) (by simp) ?_
              refine AllReadyH.cons Kit.at12 (fun K0 hK => ?_) AllReadyH.nil
              go_simp
              refine (HPK.out _).mono ?_; rintro e Wz ⟨rfl, rfl⟩
              refine hK.out _ _ (HS.out _ BX1.out) (fun hHeld => ?_)
              clear hK K0
              try simp only [Act.put, List.setIfInBounds_toArray, List.set_cons_zero, List.set_cons_succ]
              refine wpAnyH_take (i := 13) (v := .slice none 0 0) Kit.at13 (by kernel_rfl) (by kernel_rfl) (by kernel_rfl) (fun _ _ _ h => h) (Or.inl ⟨by rfl, fun w hw => ?_⟩) hHeld ?_
              case' refine_1 => go_simp
              try simp only [Act.put, List.setIfInBounds_toArray, List.set_cons_zero, List.set_cons_succ]
              obtain ⟨BZ, UZ⟩ := And.intro BX1 UX1
              generalize X1 = WZ at *
              refine wpAnyH_ready (rs := [14]) (by kernel_rfl) (by simp) ?_
              refine AllReadyH.cons Kit.at14 (fun K0 hK => ?_) AllReadyH.nil
              go_simp
              refine hK.out _ _ (HS.out _ (BZ.out.trans ((Kit.below_alloc WZ _).mono BZ.out.size))) (fun hHeld => ?_)
              clear hK K0
              try simp only [Act.put, List.setIfInBounds_toArray, List.set_cons_zero, List.set_cons_succ]
              refine wpAnyH_take (i := 15) (v := .int .i64 4) Kit.at15 (by kernel_rfl) (by kernel_rfl) (by kernel_rfl) (fun _ _ _ h => h) (Or.inl ⟨by rfl, fun w hw => ?_⟩) hHeld ?_
              case' refine_1 => go_simp
              try simp only [Act.put, List.setIfInBounds_toArray]
              refine wpAnyH_done (by kernel_rfl) ?_ _
              go_wp2
              go_meet
              case rel => exact ⟨rfl, rfl, rfl, relN WZ g7 c7 BZ UZ⟩
          · have HN := Lib.hid (show 0 < ps.length by omega)
            obtain ⟨g, cap, he⟩ := ownsRow_pos O10.out.row HN.out
            obtain ⟨rfl, rfl⟩ : some ⟨g, 0, none⟩ = na ∧ cap = nc := by cases he; exact ⟨rfl, rfl⟩
            clear he
            have PR := Lib.hid O10.out.pl
            have hwn : IntKind.i64.wrap ((ps.length : Int) + 1) = (ps.length : Int) + 1 := by rw [IntKind.wrap_i64]; omega
            have hPc : P ≤ cap := by have := PR.out.le; omega
            have s1 : (0 : Int) ≤ (P : Int) := by omega
            have s2 : (P : Int) ≤ (cap : Int) := by omega
            rw [Int.natCast_add] at HPK
            have relS : ∀ (WZ : World) (g7 c7 : Nat), Hid (Below Wr.heap.size Wr WZ) → Hid (WZ.ownsRow Wr.heap.size 31 4 (.slice (some ⟨g7, 0, none⟩) (ps.length + 1) c7) (ps.length + 1) (ps.flatMap cellsP ++ cellsF z)) → ∃ Y, Value.slice (some ⟨WZ.heap.size, 0, none⟩) 4 4 = .slice (some ⟨Y, 0, none⟩) 4 4 ∧ (∀ j, j < 4 → ∃ u, (WZ.alloc (.cells #[.slice (some ⟨g, 0, none⟩) ps.length cap, .slice ta ps.length tc, .slice (some ⟨g7, 0, none⟩) (ps.length + 1) c7, .slice (some ⟨g, 0, none⟩) P cap] 29)).cell? ⟨Y, j, none⟩ = some u ∧ Ask (WZ.alloc (.cells #[.slice (some ⟨g, 0, none⟩) ps.length cap, .slice ta ps.length tc, .slice (some ⟨g7, 0, none⟩) (ps.length + 1) c7, .slice (some ⟨g, 0, none⟩) P cap] 29)) u) ∧ Below Wr.heap.size Wr (WZ.alloc (.cells #[.slice (some ⟨g, 0, none⟩) ps.length cap, .slice ta ps.length tc, .slice (some ⟨g7, 0, none⟩) (ps.length + 1) c7, .slice (some ⟨g, 0, none⟩) P cap] 29)) := fun WZ g7 c7 hB hU => by
              have hA := Kit.below_alloc WZ (.cells #[.slice (some ⟨g, 0, none⟩) ps.length cap, .slice ta ps.length tc, .slice (some ⟨g7, 0, none⟩) (ps.length + 1) c7, .slice (some ⟨g, 0, none⟩) P cap] 29)
              have hBA := up hB.out (.cells #[.slice (some ⟨g, 0, none⟩) ps.length cap, .slice ta ps.length tc, .slice (some ⟨g7, 0, none⟩) (ps.length + 1) c7, .slice (some ⟨g, 0, none⟩) P cap] 29)
              have hu : RepL WZ.heap.size WZ (valsOf V.l l 3 ++ [z]) (.slice (some ⟨g7, 0, none⟩) (ps.length + 1) c7) := by
                have h := repL_pairs (l := ps ++ [(z, .slice none 0 0)]) (by rw [List.flatMap_append]; exact hU.out) (by simp) (fun p hp => by
                  rcases List.mem_append.1 hp with hp | hp
                  · exact (((O10.out.each p hp).2.1).below hB.out (Nat.le_refl _)).mono hB.out.size
                  · rw [List.mem_singleton] at hp; rw [hp]; exact .inl ⟨zf, rfl⟩) (fun h => by cases h)
                rw [List.map_append, HPS.out] at h
                exact h
              have hv := O10.out.rep
              rw [HPS.out] at hv
              have ht := PR.out.part (k := P) (by omega)
              rw [HPS.out] at ht
              exact ⟨_, rfl, four_cells (P := Ask _) ⟨Kit.cell_new WZ _ _ 0 rfl, Kit.cell_new WZ _ _ 1 rfl, Kit.cell_new WZ _ _ 2 rfl, Kit.cell_new WZ _ _ 3 rfl⟩ ((Ask.of HX.out (.inl hv)).later hBA) ((Ask.of HTF.out (.inl T10.out)).later hBA) ((Ask.of (fun y hy => by
                rcases List.mem_append.1 hy with h | h
                · exact HX.out y h
                · rw [List.mem_singleton] at h; rw [h]; exact HZF.out) (.inl hu)).later hA) ((Ask.of (fun y hy => HX.out y (List.mem_of_mem_take hy)) ht).later hBA), hBA⟩
            refine wp_region_held_drew (S := fun W => W.cell? ⟨w.heap.size + 2, 0, none⟩ = some (.int .i64 z.k) ∧ W.cell? ⟨w.heap.size + 2, 1, none⟩ = some (.int .i64 z.n) ∧ W.cell? ⟨w.heap.size + 2, 2, none⟩ = some (.string z.s) ∧ W.cell? ⟨w.heap.size + 2, 3, none⟩ = some (.slice none 0 0)) (by kernel_rfl) (HS.out _ BWD.out) (fun hHeld => ?_)
            generalize Wr.drew = WD at *
            refine wpAnyH_take (i := 0) (v := .slice (some ⟨g, 0, none⟩) ps.length cap) Kit.at0 (by kernel_rfl) (by kernel_rfl) (by kernel_rfl) (fun _ _ _ h => h) (Or.inl ⟨by rfl, fun w hw => ?_⟩) hHeld ?_
            case' refine_1 => go_simp
            try simp only [Act.put, List.setIfInBounds_toArray, List.set_cons_zero, List.set_cons_succ]
            refine wpAnyH_take (i := 2) (v := .slice (some ⟨g, 0, none⟩) ps.length cap) Kit.at2 (by kernel_rfl) (by kernel_rfl) (by kernel_rfl) (fun _ _ _ h => h) (Or.inl ⟨by rfl, fun w hw => ?_⟩) hHeld ?_
            case' refine_1 => go_simp
            try simp only [Act.put, List.setIfInBounds_toArray, List.set_cons_zero, List.set_cons_succ]
            refine wpAnyH_take (i := 7) (v := .slice (some ⟨g, 0, none⟩) ps.length cap) Kit.at7 (by kernel_rfl) (by kernel_rfl) (by kernel_rfl) (fun _ _ _ h => h) (Or.inl ⟨by rfl, fun w hw => ?_⟩) hHeld ?_
            case' refine_1 => go_simp
            try simp only [Act.put, List.setIfInBounds_toArray, List.set_cons_zero, List.set_cons_succ]
            refine wpAnyH_take (i := 9) (v := .slice (some ⟨g, 0, none⟩) ps.length cap) Kit.at9 (by kernel_rfl) (by kernel_rfl) (by kernel_rfl) (fun _ _ _ h => h) (Or.inl ⟨by rfl, fun w hw => ?_⟩) hHeld ?_
            case' refine_1 => go_simp
            try simp only [Act.put, List.setIfInBounds_toArray, List.set_cons_zero, List.set_cons_succ]
            refine wpAnyH_take (i := 1) (v := .slice ta ps.length tc) Kit.at1 (by kernel_rfl) (by kernel_rfl) (by kernel_rfl) (fun _ _ _ h => h) (Or.inl ⟨by rfl, fun w hw => ?_⟩) hHeld ?_
            case' refine_1 => go_simp
            try simp only [Act.put, List.setIfInBounds_toArray, List.set_cons_zero, List.set_cons_succ]
            refine wpAnyH_take (i := 16) (v := .int .i64 0) Kit.at16 (by kernel_rfl) (by kernel_rfl) (by kernel_rfl) (fun _ _ _ h => h) (Or.inl ⟨by rfl, fun w hw => ?_⟩) hHeld ?_
            case' refine_1 => go_simp
            try simp only [Act.put, List.setIfInBounds_toArray, List.set_cons_zero, List.set_cons_succ]
            refine wpAnyH_take (i := 4) (v := aggV z.k z.n z.s (.slice none 0 0)) Kit.at4 (by kernel_rfl) (by kernel_rfl) (by kernel_rfl) (fun _ _ _ h => h) (Or.inl ⟨by rfl, fun w hw => ?_⟩) hHeld ?_
            case' refine_1 => obtain ⟨v0, v1, v2, v3⟩ := hw; go_simp
            try simp only [Act.put, List.setIfInBounds_toArray, List.set_cons_zero, List.set_cons_succ]
            refine wpAnyH_take (i := 8) (v := .int .i64 at_) Kit.at8 (by kernel_rfl) (by kernel_rfl) (by kernel_rfl) (fun _ _ _ h => h) (Or.inl ⟨by rfl, fun w hw => ?_⟩) hHeld ?_
            case' refine_1 => go_simp
            try simp only [Act.put, List.setIfInBounds_toArray, List.set_cons_zero, List.set_cons_succ]
            refine wpAnyH_take (i := 10) (v := .int .i64 (ps.length : Int)) Kit.at10 (by kernel_rfl) (by kernel_rfl) (by kernel_rfl) (fun _ _ _ h => h) (Or.inl ⟨by rfl, fun w hw => ?_⟩) hHeld ?_
            case' refine_1 => go_simp
            try simp only [Act.put, List.setIfInBounds_toArray, List.set_cons_zero, List.set_cons_succ]
            refine wpAnyH_take (i := 11) (v := .int .i64 ((ps.length : Int) + 1)) Kit.at11 (by kernel_rfl) (by kernel_rfl) (by kernel_rfl) (fun _ _ _ h => h) (Or.inl ⟨by rfl, fun w hw => ?_⟩) hHeld ?_
            case' refine_1 => go_simp
            try simp only [Act.put, List.setIfInBounds_toArray, List.set_cons_zero, List.set_cons_succ]
            refine wpAnyH_ready (rs := [3, 5]) (by kernel_rfl) (by simp) ?_
            refine AllReadyH.cons Kit.at3 (fun K0 hK => ?q1) (AllReadyH.cons Kit.at5 (fun K0 hK => ?q2) AllReadyH.nil)
            case' q1 =>
              have PW := PR.out.later BWD.out
              refine Kit.step_append_own_at rfl _ _ 29 rfl Wr.heap.size 31 i1 (.agg zero4.toArray) 4 56 Tryd.underlying29 hi0 hz0 hz1 hz2 rfl (by decide) (.slice none 0 0) 0 [] rfl (World.ownsRow_nil _ _ _ _) ⟨g, 0, none⟩ ps.length cap (ps.flatMap cellsP) rfl (cellsP_len _) PW.cells (cellsPs_one PW) (by unfold maxLen; omega) (by omega) BWD.out.size ?_
              intro v6 X0 hown6 hg6 hat6; rw [Nat.zero_add, List.nil_append] at hown6; obtain ⟨g6, c6, rfl⟩ := ownsRow_pos hown6 HN.out
              have BX0 := Lib.hid (BWD.out.trans ((Kit.Moved.of_grownBy hg6).below (fun j hj => by cases hj) BWD.out.size))
              have RX0 := Lib.hid hown6
              clear hown6 hg6 hat6 PW
              refine hK.out _ _ (HS.out _ BX0.out) (fun hHeld => ?_)
              clear hK K0
              try simp only [Act.put, List.setIfInBounds_toArray, List.set_cons_zero, List.set_cons_succ]
              refine wpAnyH_ready (rs := [5]) (by kernel_rfl) (by simp) ?_
              refine AllReadyH.cons Kit.at5 (fun K0 hK => ?_) AllReadyH.nil
              have BX1 := Lib.hid (BX0.out.trans ((Kit.below_alloc X0 (.cells (cellsF z).toArray 31)).mono BX0.out.size))
              have CX1 := Lib.hid (newV X0 z)
              have RX1 := Lib.hid (Kit.ownsRow_kept RX0.out (fun j hj => (Kit.below_alloc X0 (.cells (cellsF z).toArray 31)).block j (RX0.out.lt j hj).2))
              refine Kit.step_buildSlice_one rfl 29 31 _ rfl (cellsF z) rfl i1 _ Tryd.underlying29 hi0 hz0 (hz1.trans rfl) (by rw [cellsF_len]; decide) (by rw [cellsF_len]; decide) ?_
              refine hK.out _ _ (HS.out _ BX1.out) (fun hHeld => ?_)
              clear hK K0
              try simp only [Act.put, List.setIfInBounds_toArray, List.set_cons_zero, List.set_cons_succ]
              generalize X0.alloc (.cells (cellsF z).toArray 31) = X1 at *
              generalize X0.heap.size = T at *
              refine wpAnyH_ready (rs := [6]) (by kernel_rfl) (by simp) ?_
              refine AllReadyH.cons Kit.at6 (fun K0 hK => ?_) AllReadyH.nil
              refine Kit.step_append_own_at rfl _ _ 29 rfl Wr.heap.size 31 i1 (.agg zero4.toArray) 4 56 Tryd.underlying29 hi0 hz0 hz1 hz2 rfl (by decide) (.slice (some ⟨g6, 0, none⟩) ps.length c6) ps.length (ps.flatMap cellsP) rfl RX1.out ⟨T, 0, none⟩ 1 1 (cellsF z) rfl (Val.cellsF_len z) CX1.out (Val.cellsF_one z) (by unfold maxLen; omega) (by omega) BX1.out.size ?_
              intro v7 X2 hown7 hg7 hat7; obtain ⟨g7, c7, rfl⟩ := ownsRow_pos hown7 (Nat.succ_pos _)
              have BX2 := Lib.hid (BX1.out.trans ((Kit.Moved.of_grownBy hg7).below (fun j hj => (RX1.out.lt j hj).1) BX1.out.size))
              have UX2 := Lib.hid hown7
              clear hown7 hg7 hat7
              refine hK.out _ _ (HS.out _ BX2.out) (fun hHeld => ?_)
              clear hK K0
              try simp only [Act.put, List.setIfInBounds_toArray, List.set_cons_zero, List.set_cons_succ]
              refine wpAnyH_ready (rs := [12]) (by kernel_rfl) (by simp) ?_
              refine AllReadyH.cons Kit.at12 (fun K0 hK => ?_) AllReadyH.nil
              go_simp
              refine (HPK.out _).mono ?_; rintro e Wz ⟨rfl, rfl⟩
              refine hK.out _ _ (HS.out _ BX2.out) (fun hHeld => ?_)
              clear hK K0
              try simp only [Act.put, List.setIfInBounds_toArray, List.set_cons_zero, List.set_cons_succ]
              refine wpAnyH_take (i := 13) (v := .slice (some ⟨g, 0, none⟩) P cap) Kit.at13 (by kernel_rfl) (by kernel_rfl) (by kernel_rfl) (fun _ _ _ h => h) (Or.inl ⟨by rfl, fun w hw => ?_⟩) hHeld ?_
              case' refine_1 => go_simp
              try simp only [Act.put, List.setIfInBounds_toArray, List.set_cons_zero, List.set_cons_succ]
              obtain ⟨BZ, UZ⟩ := And.intro BX2 UX2
              generalize X2 = WZ at *
              refine wpAnyH_ready (rs := [14]) (by kernel_rfl) (by simp) ?_
              refine AllReadyH.cons Kit.at14 (fun K0 hK => ?_) AllReadyH.nil
              go_simp
              refine hK.out _ _ (HS.out _ (BZ.out.trans ((Kit.below_alloc WZ _).mono BZ.out.size))) (fun hHeld => ?_)
              clear hK K0
              try simp only [Act.put, List.setIfInBounds_toArray, List.set_cons_zero, List.set_cons_succ]
              refine wpAnyH_take (i := 15) (v := .int .i64 4) Kit.at15 (by kernel_rfl) (by kernel_rfl) (by kernel_rfl) (fun _ _ _ h => h) (Or.inl ⟨by rfl, fun w hw => ?_⟩) hHeld ?_
              case' refine_1 => go_simp
              try simp only [Act.put, List.setIfInBounds_toArray]
              refine wpAnyH_done (by kernel_rfl) ?_ _
              go_wp2
              go_meet
              case rel => exact ⟨rfl, rfl, rfl, relS WZ g7 c7 BZ UZ⟩
            case' q2 =>
              have BX0 := Lib.hid (BWD.out.trans ((Kit.below_alloc WD (.cells (cellsF z).toArray 31)).mono BWD.out.size))
              have CX0 := Lib.hid (newV WD z)
              refine Kit.step_buildSlice_one rfl 29 31 _ rfl (cellsF z) rfl i1 _ Tryd.underlying29 hi0 hz0 (hz1.trans rfl) (by rw [cellsF_len]; decide) (by rw [cellsF_len]; decide) ?_
              refine hK.out _ _ (HS.out _ BX0.out) (fun hHeld => ?_)
              clear hK K0
              try simp only [Act.put, List.setIfInBounds_toArray, List.set_cons_zero, List.set_cons_succ]
              generalize WD.alloc (.cells (cellsF z).toArray 31) = X0 at *
              generalize WD.heap.size = T at *
              refine wpAnyH_ready (rs := [3]) (by kernel_rfl) (by simp) ?_
              refine AllReadyH.cons Kit.at3 (fun K0 hK => ?_) AllReadyH.nil
              have PW := PR.out.later BX0.out
              refine Kit.step_append_own_at rfl _ _ 29 rfl Wr.heap.size 31 i1 (.agg zero4.toArray) 4 56 Tryd.underlying29 hi0 hz0 hz1 hz2 rfl (by decide) (.slice none 0 0) 0 [] rfl (World.ownsRow_nil _ _ _ _) ⟨g, 0, none⟩ ps.length cap (ps.flatMap cellsP) rfl (cellsP_len _) PW.cells (cellsPs_one PW) (by unfold maxLen; omega) (by omega) BX0.out.size ?_
              intro v6 X1 hown6 hg6 hat6; rw [Nat.zero_add, List.nil_append] at hown6; obtain ⟨g6, c6, rfl⟩ := ownsRow_pos hown6 HN.out
              have BX1 := Lib.hid (BX0.out.trans ((Kit.Moved.of_grownBy hg6).below (fun j hj => by cases hj) BX0.out.size))
              have RX1 := Lib.hid hown6
              have CX1 := Lib.hid (show ∀ (j : Nat) (u : Value), (cellsF z)[j]? = some u → X1.cell? ((⟨T, 0, none⟩ : Addr).add j) = some u from fun j u hu => by have h := CX0.out j u hu; rw [Addr.add_mid] at h ⊢; exact Val.cell_moved h (Kit.Moved.of_grownBy hg6) (fun hj => by cases hj))
              clear hown6 hg6 hat6 PW
              refine hK.out _ _ (HS.out _ BX1.out) (fun hHeld => ?_)
              clear hK K0
              try simp only [Act.put, List.setIfInBounds_toArray, List.set_cons_zero, List.set_cons_succ]
              refine wpAnyH_ready (rs := [6]) (by kernel_rfl) (by simp) ?_
              refine AllReadyH.cons Kit.at6 (fun K0 hK => ?_) AllReadyH.nil
              refine Kit.step_append_own_at rfl _ _ 29 rfl Wr.heap.size 31 i1 (.agg zero4.toArray) 4 56 Tryd.underlying29 hi0 hz0 hz1 hz2 rfl (by decide) (.slice (some ⟨g6, 0, none⟩) ps.length c6) ps.length (ps.flatMap cellsP) rfl RX1.out ⟨T, 0, none⟩ 1 1 (cellsF z) rfl (Val.cellsF_len z) CX1.out (Val.cellsF_one z) (by unfold maxLen; omega) (by omega) BX1.out.size ?_
              intro v7 X2 hown7 hg7 hat7; obtain ⟨g7, c7, rfl⟩ := ownsRow_pos hown7 (Nat.succ_pos _)
              have BX2 := Lib.hid (BX1.out.trans ((Kit.Moved.of_grownBy hg7).below (fun j hj => (RX1.out.lt j hj).1) BX1.out.size))
              have UX2 := Lib.hid hown7
              clear hown7 hg7 hat7
              refine hK.out _ _ (HS.out _ BX2.out) (fun hHeld => ?_)
              clear hK K0
              try simp only [Act.put, List.setIfInBounds_toArray, List.set_cons_zero, List.set_cons_succ]
              refine wpAnyH_ready (rs := [12]) (by kernel_rfl) (by simp) ?_
              refine AllReadyH.cons Kit.at12 (fun K0 hK => ?_) AllReadyH.nil
              go_simp
              refine (HPK.out _).mono ?_; rintro e Wz ⟨rfl, rfl⟩
              refine hK.out _ _ (HS.out _ BX2.out) (fun hHeld => ?_)
              clear hK K0
              try simp only [Act.put, List.setIfInBounds_toArray, List.set_cons_zero, List.set_cons_succ]
              refine wpAnyH_take (i := 13) (v := .slice (some ⟨g, 0, none⟩) P cap) Kit.at13 (by kernel_rfl) (by kernel_rfl) (by kernel_rfl) (fun _ _ _ h => h) (Or.inl ⟨by rfl, fun w hw => ?_⟩) hHeld ?_
              case' refine_1 => go_simp
              try simp only [Act.put, List.setIfInBounds_toArray, List.set_cons_zero, List.set_cons_succ]
              obtain ⟨BZ, UZ⟩ := And.intro BX2 UX2
              generalize X2 = WZ at *
              refine wpAnyH_ready (rs := [14]) (by kernel_rfl) (by simp) ?_
              refine AllReadyH.cons Kit.at14 (fun K0 hK => ?_) AllReadyH.nil
              go_simp
              refine hK.out _ _ (HS.out _ (BZ.out.trans ((Kit.below_alloc WZ _).mono BZ.out.size))) (fun hHeld => ?_)
              clear hK K0
              try simp only [Act.put, List.setIfInBounds_toArray, List.set_cons_zero, List.set_cons_succ]
              refine wpAnyH_take (i := 15) (v := .int .i64 4) Kit.at15 (by kernel_rfl) (by kernel_rfl) (by kernel_rfl) (fun _ _ _ h => h) (Or.inl ⟨by rfl, fun w hw => ?_⟩) hHeld ?_
              case' refine_1 => go_simp
              try simp only [Act.put, List.setIfInBounds_toArray]
              refine wpAnyH_done (by kernel_rfl) ?_ _
              go_wp2
              go_meet
              case rel => exact ⟨rfl, rfl, rfl, relS WZ g7 c7 BZ UZ⟩
        case rest =>
          obtain ⟨rfl, rfl, rfl, Y, rfl, hY, hB⟩ := hcut
          have K1 := Lib.hid (KB0.out.later hB)
          have B11 := Lib.hid (next B10.out hB)
          have HY := Lib.hid hY
          have HBW := Lib.hid (fun W (h : Below wc.heap.size wc W) => (next B11.out h))
          have HJ := Lib.hid ((J10.out.later hB).below)
          clear hY hB KB0 J10 O10 T10
          go_wp2_with fail
          go_loopw [77] (fun i wr => ∃ j : Nat, j ≤ 4 ∧ i = .int .i64 j ∧ Below wc.heap.size wc wr) (fun i _ => 4 - (intOf i).toNat)
          case atStart => exact ⟨0, by omega, rfl, Below.refl _ _⟩
          case round =>
            obtain ⟨j, hj, rfl, hBr⟩ := hrel
            by_cases hl4 : j < 4
            · have j1 : (j : Int) < 4 := by omega
              obtain ⟨u, hu, hask⟩ := HY.out j hl4
              have hask2 := hask.later hBr
              have y1 := (hBr.cell (p := ⟨Y, j, none⟩) (Kit.lt_of_cell hu)).trans hu
              obtain ⟨X, xa', xc', rfl, hXf, hXr⟩ := hask2
              have K2 := Lib.hid (K1.out.later hBr)
              have B12 := Lib.hid (next HJ.out hBr)
              have HA1 := Lib.hid (fun W (h : Below wr.heap.size wr W) => HC.out K X hXf W (next B12.out h) _ _ ((K2.out.later h).2) ((hXr.below h (Nat.le_refl _)).mono h.size))
              have HA2 := Lib.hid (fun W (h : Below wr.heap.size wr W) => HRC.out K hKF.out X hXf W _ _ ((K2.out.later h).2) ((hXr.below h (Nat.le_refl _)).mono h.size))
              have B13 := Lib.hid hBr
              obtain ⟨c1, c2⟩ := K2.out.1
              clear hu hask hXf hXr hBr
              generalize checkC K X = R at *
              obtain ⟨R1, R2⟩ := R
              dsimp only at HA1 HA2
              go_wp2_with fail
              refine (HA1.out _ (Below.refl _ _)).mono ?_
              rintro e W12 ⟨rfl, hB1⟩
              have c3 := (hB1.cell (p := ⟨bd, 0, none⟩) (Kit.lt_of_cell c1)).trans c1
              have c4 := (hB1.cell (p := ⟨bd, 1, none⟩) (Kit.lt_of_cell c2)).trans c2
              clear c1 c2 y1
              go_wp2_with fail
              refine (HA2.out _ hB1).mono ?_
              rintro e W13 ⟨rfl, hB2⟩
              have B14 := Lib.hid (next B13.out (next hB1 hB2))
              clear c3 c4 hB1 hB2
              go_wp2
              go_roundw
              case rel => exact ⟨j + 1, by omega, by go_num, B14.out⟩
              case measure => simp [intOf]; omega
            · have hj4 : j = 4 := by omega
              subst hj4
              have B12 := Lib.hid (HBW.out _ hBr)
              clear hBr
              go_wp2
              go_roundw
              case rel => exact ⟨k + 1, by omega, by go_num, B12.out⟩
              case measure => simp [intOf]; omega
      · have hk2 : k = 2 := by omega
        subst hk2
        go_wp2
        go_ret
        exact ⟨ret_bool (by simp), J9.out.below⟩
theorem checks4_row {w : World} (x : Raw4) (hx : x.Ok) (xlv : Value) (hl : FRawL w x.l xlv) (O : Cl) (hO : O.fits) (olv : Value) (ho : FdC w O.l olv) (l : List Int) (hlb : ∀ y ∈ l, -9223372036854775808 ≤ y ∧ y ≤ 9223372036854775807) (lv : Value) (hi : IntsL w l lv) (at_ : Int) (a1 : -9223372036854775808 ≤ at_) (a2 : at_ ≤ 9223372036854775807) (vk vn : Int) (vs : ByteArray) (va : Option Addr) (vl vc : Nat) (_hvs : vs.size ≤ 140737488351232) (ae : Addr) (hE : Env ae w) :
    Calls Tryd.prog 3 #[.agg #[.int .i64 x.n, xlv], .agg #[.string O.nm, olv], lv, .int .i64 at_, .agg #[.int .i64 vk, .int .i64 vn, .string vs, .slice va vl vc]] w fun e w' => e = .returned (.bool true) ∧ Below w.heap.size w w' := checks4_any ae x hx O hO l hlb at_ a1 a2 vk vn vs va vl vc w xlv olv lv hl ho hi hE
end Go.Proofs.YtmobnlofbopbeaaDoor.Cls
