/- Layer 4's laws: ClassValues. -/
import Derived.Test.YtmobnlofbopbeaaGreatDoorLaw4Ex
import Derived.Test.YtmobnlofbopbeaaGreatDoorMK
import Derived.Test.YtmobnlofbopbeaaGreatDoorMA
import Derived.Test.YtmobnlofbopbeaaGreatDoorME4
import Derived.Deep.RegionHeld3
import Derived.Deep.RegionWith
namespace Go.Proofs.YtmobnlofbopbeaaGreatDoor.Cls
open Go.RowKit
open Kit (ret_int ret_bool Moved)
open Val (Env EnvT flat bs bs_size bs_list bs_append Vl Rep RepL aggV zero4 vInfo3 rightV fitsV encV encV_len wrV wrV_len readR decR decR_full readR_full sameV sameV_iff refsV Nums Fresh cellsV Text_any Read_any same_any Refs_any Weaks_any)

attribute [local go_sem] Oper.semAt_some

/-- The first values' bytes, put together. -/
def putB (vs : List Vl) (k : Nat) : ByteArray := bs ((vs.take k).flatMap encV)
theorem putB_succ {vs : List Vl} {k : Nat} {y : Vl} (h : vs[k]? = some y) : putB vs (k + 1) = putB vs k ++ bs (encV y) := by
  obtain ⟨hk, he⟩ := List.getElem?_eq_some_iff.1 h
  unfold putB
  rw [List.take_succ_eq_append_getElem hk, he, List.flatMap_append, ← bs_append]
  simp
theorem flat_len : ∀ l : List Vl, (∀ y ∈ l, rightV y = true) → (l.flatMap encV).length ≤ l.length * 200000
  | [], _ => Nat.zero_le _
  | x :: r, h => by
    have h1 := encV_len (h x (List.mem_cons_self ..))
    have h2 := flat_len r (fun y hy => h y (List.mem_cons_of_mem _ hy))
    rw [List.flatMap_cons, List.length_append, List.length_cons]
    omega
theorem putB_size (vs : List Vl) (hr : ∀ y ∈ vs, rightV y = true) (k : Nat) : (putB vs k).size ≤ k * 200000 := by
  unfold putB
  rw [bs_size]
  have h1 := flat_len (vs.take k) (fun y hy => hr y (List.mem_of_mem_take hy))
  have h2 : (vs.take k).length ≤ k := by rw [List.length_take]; exact Nat.min_le_left _ _
  exact Nat.le_trans h1 (Nat.mul_le_mul_right _ h2)
theorem putB_dec {vs : List Vl} {k : Nat} {y : Vl} (h : vs[k]? = some y) (hy : rightV y = true) : decR (putB vs vs.length) ((putB vs k).size : Int) = .inr (y, ((putB vs (k + 1)).size : Int)) := by
  obtain ⟨hk, he⟩ := List.getElem?_eq_some_iff.1 h
  have h1 := decR_full ((vs.take k).flatMap encV) ((vs.drop (k + 1)).flatMap encV) y hy
  rw [putB_succ h, ByteArray.size_append]
  unfold putB
  rw [bs_size, bs_size, Int.natCast_add, ← h1, List.take_length]
  congr 2
  conv => lhs; rw [← List.take_append_drop k vs, List.drop_eq_getElem_cons hk, he]
  rw [List.flatMap_append, List.flatMap_cons]
theorem vals_right {V : Cl} (hr : clsR V = true) (l : List Int) (m : Nat) (hm : m ≤ 100000) : ∀ y ∈ valsOf V.l l m, rightV y = true := by
  intro y hy
  obtain ⟨i, hi⟩ := List.getElem?_of_mem hy
  have hl : i < V.l.length := by rw [← valsOf_len V.l l m]; exact (List.getElem?_eq_some_iff.1 hi).1
  obtain ⟨f, hf⟩ : ∃ f, V.l[i]? = some f := ⟨_, List.getElem?_eq_getElem hl⟩
  rw [valsOf_at hf] at hi
  cases hi
  have h := valF_fits f.k f.o (nOf l i) m (cls_ty hr hf) hm
  unfold fitsV at h
  rw [Bool.and_eq_true, Bool.and_eq_true] at h
  exact h.2.1
theorem vals_flat (fs : List Fd) (l : List Int) (m : Nat) : ∀ y ∈ valsOf fs l m, ∀ u ∈ y.l, u.isFlat := by
  intro y hy
  obtain ⟨i, _, rfl⟩ := List.mem_map.1 hy
  exact valF_flat _ _ _ _

/-- What lies in memory: the class, and its values. -/
structure CvJ (w : World) (V : Cl) (bc : Nat) (cv : Value) (VS : List Vl) (ov : Value) (W : World) : Prop where
  c : BxC W bc V cv
  vs : RepL W.heap.size W VS ov
  below : Below w.heap.size w W
theorem CvJ.later {w : World} {V : Cl} {bc : Nat} {cv : Value} {VS : List Vl} {ov : Value} {W W' : World} (h : CvJ w V bc cv VS ov W) (hB : Below W.heap.size W W') : CvJ w V bc cv VS ov W' :=
  ⟨h.c.later hB, (h.vs.below hB (Nat.le_refl _)).mono hB.size, next h.below hB⟩
/-- Two lists of values of their own, from W1 on. -/
structure Cv2J (W1 : World) (qb qr : List (Vl × Value)) (bo ro : Value) (W : World) : Prop where
  one : W.ownsRow W1.heap.size 30 4 bo qb.length (qb.flatMap cellsP)
  two : W.ownsRow W1.heap.size 30 4 ro qr.length (qr.flatMap cellsP)
  apart : ∀ j, bo.ownBlock = some j → ro.ownBlock ≠ some j
  each : ∀ q ∈ qb ++ qr, (∀ y ∈ q.1.l, y.isFlat) ∧ RepL W.heap.size W q.1.l q.2 ∧ ∀ j, q.2.ownBlock = some j → bo.ownBlock ≠ some j ∧ ro.ownBlock ≠ some j
  nil1 : qb.length = 0 → bo = .slice none 0 0
  nil2 : qr.length = 0 → ro = .slice none 0 0
  below : Below W1.heap.size W1 W
theorem Cv2J.later {W1 : World} {qb qr : List (Vl × Value)} {bo ro : Value} {W W' : World} (h : Cv2J W1 qb qr bo ro W) (hB : Below W.heap.size W W') : Cv2J W1 qb qr bo ro W' :=
  ⟨Kit.ownsRow_kept h.one (fun j hj => hB.block j (h.one.lt j hj).2), Kit.ownsRow_kept h.two (fun j hj => hB.block j (h.two.lt j hj).2), h.apart, fun q hq => ⟨(h.each q hq).1, ((h.each q hq).2.1.below hB (Nat.le_refl _)).mono hB.size, (h.each q hq).2.2⟩, h.nil1, h.nil2, h.below.trans (hB.mono h.below.size)⟩
theorem Cv2J.begins (W1 : World) : Cv2J W1 [] [] (.slice none 0 0) (.slice none 0 0) W1 :=
  ⟨World.ownsRow_nil _ _ _ _, World.ownsRow_nil _ _ _ _, (fun j hj => by cases hj), (fun q hq => by cases hq), (fun _ => rfl), (fun _ => rfl), Below.refl _ _⟩
theorem row_slice {W : World} {B n : Nat} {v : Value} {e : TypeId} {size : Nat} {xs : List Value} (h : W.ownsRow B e size v n xs) : ∃ a c, v = .slice a n c := by
  rcases h.2 with ⟨h1, h2⟩ | ⟨g, cap, cur, h1, _⟩
  · exact ⟨none, 0, by rw [h1, h2]⟩
  · exact ⟨_, _, h1⟩
theorem Cv2J.push1 {W1 : World} {qb qr : List (Vl × Value)} {bo ro bo' : Value} {W W' : World} {z : Vl} {lz : Value} (h : Cv2J W1 qb qr bo ro W) (hf : ∀ y ∈ z.l, y.isFlat) (hr : RepL W.heap.size W z.l lz) (ho : ∀ j, lz.ownBlock = some j → bo.ownBlock ≠ some j ∧ ro.ownBlock ≠ some j)
    (hg : W.grownBy W' bo.ownBlock) (hown : W'.ownsRow W1.heap.size 30 4 bo' (qb.length + 1) (qb.flatMap cellsP ++ cellsP (z, lz))) (hat : bo'.ownBlock = bo.ownBlock ∨ bo'.ownBlock = some W.heap.size) : Cv2J W1 (qb ++ [(z, lz)]) qr bo' ro W' := by
  have hm := Kit.Moved.of_grownBy hg
  have hk : ∀ (y : Vl) (lv : Value), (∀ u ∈ y.l, u.isFlat) → RepL W.heap.size W y.l lv → (∀ j, lv.ownBlock = some j → bo.ownBlock ≠ some j ∧ ro.ownBlock ≠ some j) → (∀ u ∈ y.l, u.isFlat) ∧ RepL W'.heap.size W' y.l lv ∧ ∀ j, lv.ownBlock = some j → bo'.ownBlock ≠ some j ∧ ro.ownBlock ≠ some j := fun y lv h1 h2 h3 => by
    refine ⟨h1, h2.keep1 h1 (fun j hj => hm.block j (h2.lt j hj) (h3 j hj).1) hm.size, fun j hj => ⟨fun e => ?_, (h3 j hj).2⟩⟩
    rcases hat with h4 | h4
    · exact (h3 j hj).1 (h4 ▸ e)
    · rw [h4] at e
      have := h2.lt j hj
      cases e
      omega
  refine ⟨?_, Kit.ownsRow_kept h.two (fun j hj => hm.block j (h.two.lt j hj).2 (fun e => h.apart j e hj)), fun j hj => ?_, fun q hq => ?_, fun e => by simp at e, h.nil2, h.below.trans (hm.below (fun j hj => (h.one.lt j hj).1) h.below.size)⟩
  · rw [List.length_append, List.length_singleton, List.flatMap_append]
    simpa using hown
  · rcases hat with h2 | h2
    · exact h.apart j (h2 ▸ hj)
    · intro e
      rw [h2] at hj
      have := (h.two.lt j e).2
      cases hj
      omega
  · simp only [List.mem_append, List.mem_singleton] at hq
    rcases hq with (hq | rfl) | hq
    · have e := h.each q (List.mem_append_left _ hq)
      exact hk q.1 q.2 e.1 e.2.1 e.2.2
    · exact hk z lz hf hr ho
    · have e := h.each q (List.mem_append_right _ hq)
      exact hk q.1 q.2 e.1 e.2.1 e.2.2
theorem Cv2J.push2 {W1 : World} {qb qr : List (Vl × Value)} {bo ro ro' : Value} {W W' : World} {z : Vl} {lz : Value} (h : Cv2J W1 qb qr bo ro W) (hf : ∀ y ∈ z.l, y.isFlat) (hr : RepL W.heap.size W z.l lz) (ho : ∀ j, lz.ownBlock = some j → bo.ownBlock ≠ some j ∧ ro.ownBlock ≠ some j)
    (hg : W.grownBy W' ro.ownBlock) (hown : W'.ownsRow W1.heap.size 30 4 ro' (qr.length + 1) (qr.flatMap cellsP ++ cellsP (z, lz))) (hat : ro'.ownBlock = ro.ownBlock ∨ ro'.ownBlock = some W.heap.size) : Cv2J W1 qb (qr ++ [(z, lz)]) bo ro' W' := by
  have hm := Kit.Moved.of_grownBy hg
  have hk : ∀ (y : Vl) (lv : Value), (∀ u ∈ y.l, u.isFlat) → RepL W.heap.size W y.l lv → (∀ j, lv.ownBlock = some j → bo.ownBlock ≠ some j ∧ ro.ownBlock ≠ some j) → (∀ u ∈ y.l, u.isFlat) ∧ RepL W'.heap.size W' y.l lv ∧ ∀ j, lv.ownBlock = some j → bo.ownBlock ≠ some j ∧ ro'.ownBlock ≠ some j := fun y lv h1 h2 h3 => by
    refine ⟨h1, h2.keep1 h1 (fun j hj => hm.block j (h2.lt j hj) (h3 j hj).2) hm.size, fun j hj => ⟨(h3 j hj).1, fun e => ?_⟩⟩
    rcases hat with h4 | h4
    · exact (h3 j hj).2 (h4 ▸ e)
    · rw [h4] at e
      have := h2.lt j hj
      cases e
      omega
  refine ⟨Kit.ownsRow_kept h.one (fun j hj => hm.block j (h.one.lt j hj).2 (fun e => h.apart j hj e)), ?_, fun j hj => ?_, fun q hq => ?_, h.nil1, fun e => by simp at e, h.below.trans (hm.below (fun j hj => (h.two.lt j hj).1) h.below.size)⟩
  · rw [List.length_append, List.length_singleton, List.flatMap_append]
    simpa using hown
  · rcases hat with h2 | h2
    · rw [h2]; exact h.apart j hj
    · intro e
      rw [h2] at e
      have := (h.one.lt j hj).2
      cases e
      omega
  · simp only [List.mem_append, List.mem_singleton] at hq
    rcases hq with hq | hq | rfl
    · have e := h.each q (List.mem_append_left _ hq)
      exact hk q.1 q.2 e.1 e.2.1 e.2.2
    · have e := h.each q (List.mem_append_right _ hq)
      exact hk q.1 q.2 e.1 e.2.1 e.2.2
    · exact hk z lz hf hr ho
theorem Cv2J.rep1 {W1 : World} {qb qr : List (Vl × Value)} {bo ro : Value} {W : World} (h : Cv2J W1 qb qr bo ro W) : RepL W.heap.size W (qb.map (·.1)) bo := repL_pairs h.one rfl (fun q hq => (h.each q (List.mem_append_left _ hq)).2.1) h.nil1
theorem Cv2J.rep2 {W1 : World} {qb qr : List (Vl × Value)} {bo ro : Value} {W : World} (h : Cv2J W1 qb qr bo ro W) : RepL W.heap.size W (qr.map (·.1)) ro := repL_pairs h.two rfl (fun q hq => (h.each q (List.mem_append_right _ hq)).2.1) h.nil2
theorem take_map_succ {qs : List (Vl × Value)} {vs : List Vl} {k : Nat} {y : Vl} {lz : Value} (h : qs.map (·.1) = vs.take k) (hy : vs[k]? = some y) : (qs ++ [(y, lz)]).map (·.1) = vs.take (k + 1) := by
  obtain ⟨hk, he⟩ := List.getElem?_eq_some_iff.1 hy
  rw [List.map_append, h, List.take_succ_eq_append_getElem hk, he]; rfl
theorem newP (W : World) (z : Vl) (lz : Value) (T : TypeId) : ∀ (j : Nat) (u : Value), (cellsP (z, lz))[j]? = some u → (W.alloc (.cells #[.int .i64 z.k, .int .i64 z.n, .string z.s, lz] T)).cell? ((⟨W.heap.size, 0, none⟩ : Addr).add j) = some u := fun j u hu => by
  rw [Addr.add_mid]
  exact Kit.cell_new W _ _ (0 + j) (by rw [Nat.zero_add, ← Array.getElem?_toList]; exact hu)

/-- A value that was made in this round, and lies in a box. -/
structure UJ (n bu : Nat) (y : Vl) (lu : Value) (W : World) : Prop where
  box : Kit.Box4 W bu (.int .i64 y.k) (.int .i64 y.n) (.string y.s) lu
  rep : RepL W.heap.size W y.l lu
  ge : n ≤ bu
  fr : ∀ j, lu.ownBlock = some j → n ≤ j
theorem UJ.later {n bu : Nat} {y : Vl} {lu : Value} {W W' : World} (h : UJ n bu y lu W) (hB : Below W.heap.size W W') : UJ n bu y lu W' :=
  ⟨h.box.below hB h.box.lt, (h.rep.below hB (Nat.le_refl _)).mono hB.size, h.ge, h.fr⟩
theorem UJ.grown {n bu : Nat} {y : Vl} {lu : Value} {W W' : World} {row : Option Nat} (h : UJ n bu y lu W) (hf : ∀ u ∈ y.l, u.isFlat) (hg : W.grownBy W' row) (hr : ∀ j, row = some j → j < n) : UJ n bu y lu W' := by
  have hm := Kit.Moved.of_grownBy hg
  have hb : ¬ row = some bu := fun e => by have := hr _ e; have := h.ge; omega
  obtain ⟨h0, h1, h2, h3⟩ := h.box
  exact ⟨⟨Val.cell_moved h0 hm hb, Val.cell_moved h1 hm hb, Val.cell_moved h2 hm hb, Val.cell_moved h3 hm hb⟩, h.rep.keep1 hf (fun j hj => hm.block j (h.rep.lt j hj) (fun e => by have := hr _ e; have := h.fr j hj; omega)) hm.size, h.ge, h.fr⟩
theorem UJ.new {n : Nat} {y : Vl} {lu : Value} {W : World} (hn : n ≤ W.heap.size) (hr : RepL W.heap.size W y.l lu) (hf : ∀ j, lu.ownBlock = some j → n ≤ j) : UJ n W.heap.size y lu (W.alloc (.cells #[.int .i64 y.k, .int .i64 y.n, .string y.s, lu] 30)) :=
  ⟨Kit.box4_new W _ _ _ _ _, (hr.below (Kit.below_alloc W _) (Nat.le_refl _)).mono (by simp), hn, hf⟩

set_option maxRecDepth 100000 in
set_option maxHeartbeats 8000000 in
theorem values4_any (ae : Addr) (x : Raw4) (hx : x.Ok) (l : List Int) (hlb : ∀ y ∈ l, -9223372036854775808 ≤ y ∧ y ≤ 9223372036854775807) (w : World) (xlv lv : Value) (hl : FRawL w x.l xlv) (hi : IntsL w l lv) (hE : EnvT ae w) :
    Calls Tryz.prog 6 #[.agg #[.int .i64 x.n, xlv], lv] w fun e w' => e = .returned (.bool true) ∧ Below w.heap.size w w' := by
  have hr := classOf_right x
  have hOf := fun W (h : Below w.heap.size w W) => ClassOf_any x hx W xlv (hl.below h)
  generalize classOf x = V at *
  have h8 := ((clsR_iff V).1 hr).2.1
  have HE := Lib.hid (fun W (h : Below w.heap.size w W) => hE.below h)
  have HOf := Lib.hid hOf
  have HV := Lib.hid (fun W (h : Below w.heap.size w W) cv (hc : FdL W.heap.size W V.l cv) => valsOf_any V (fun f hf => by obtain ⟨i, hi⟩ := List.getElem?_of_mem hf; exact cls_ty hr hi) h8 l hlb 6 (by decide) W cv lv hc (hi.below h))
  have hvr := vals_right hr l 6 (by decide)
  have hvs := vals_sz V.l l 6
  have hvf := vals_flat V.l l 6
  have hvc := fits_vals hr l 6 (by decide)
  have hvl := valsOf_len V.l l 6
  generalize valsOf V.l l 6 = VS at *
  have hpz := putB_size VS hvr
  have HX := Lib.hid (And.intro hvr (And.intro hvs (And.intro hvf (And.intro hvc hpz))))
  have HC := Lib.hid (fun W (h : Below w.heap.size w W) cv vv (hc : FdL W.heap.size W V.l cv) (hv : RepL W.heap.size W VS vv) => check_any ae V VS hvs W.heap.size W cv vv (Nat.le_refl _) (hE.below h).env hc hv)
  rw [hvc] at HC
  have hn8 : VS.length ≤ 8 := by omega
  obtain ⟨xa, xc, rfl, -⟩ := hl.len
  obtain ⟨la, lc, rfl, -⟩ := hi.len
  have B0 := Lib.hid (Kit.below_alloc w (.cells #[.int .i64 x.n, .slice xa x.l.length xc] 53))
  have p1 := Kit.cell_new w #[.int .i64 x.n, .slice xa x.l.length xc] 53 0 rfl
  have p2 := Kit.cell_new w #[.int .i64 x.n, .slice xa x.l.length xc] 53 1 rfl
  have PP := Lib.hid (And.intro p1 p2)
  obtain ⟨i1, hi0, hz0, hz1, hz2⟩ := info_parts vInfo3
  clear hE hOf hl hi hx hr p1 p2 hlb hvr hvs hvf hvc hpz h8 hvl
  go_enter Tryz.func6, Tryz.ntmps6
  go_wp2_with fail
  refine (examples_any ae _ (HE.out _ B0.out).env).mono ?_
  rintro e W1 ⟨rfl, hB⟩
  have p1 := (hB.cell (p := ⟨w.heap.size, 0, none⟩) (Kit.lt_of_cell PP.out.1)).trans PP.out.1
  have p2 := (hB.cell (p := ⟨w.heap.size, 1, none⟩) (Kit.lt_of_cell PP.out.2)).trans PP.out.2
  have B1 := Lib.hid (next B0.out hB)
  clear hB PP B0
  go_wp2_with fail
  refine (HOf.out _ B1.out).mono ?_
  rintro e W2 ⟨⟨cv, rfl, hcv, -⟩, hB⟩
  obtain ⟨va, vc, rfl, -⟩ := hcv.len
  have A2 := Lib.hid (BxC.new W2 V _ hcv)
  have B2 := Lib.hid (up (next B1.out hB) (.cells #[.string V.nm, .slice va V.l.length vc] 56))
  clear hB hcv p1 p2 B1 HOf
  obtain ⟨p1, p2⟩ := A2.out.1
  go_wp2_with fail
  refine (HV.out _ B2.out _ A2.out.2).mono ?_
  rintro e W3 ⟨⟨ov, rfl, hov, -⟩, hB⟩
  have J3 : Hid (CvJ w V W2.heap.size (.slice va V.l.length vc) VS ov W3) := Lib.hid ⟨A2.out.later hB, hov, next B2.out hB⟩
  obtain ⟨oa, oc, rfl, -⟩ := hov.len
  clear hB hov p1 p2 A2 B2 HV
  generalize W2.heap.size = bc at *
  go_upto_region 8 with fail
  go_loopw [8, 9] (fun sv i wr => ∃ k : Nat, k ≤ VS.length ∧ sv = .string (putB VS k) ∧ i = .int .i64 k ∧ CvJ w V bc (.slice va V.l.length vc) VS (.slice oa VS.length oc) wr) (fun _ i _ => VS.length - (intOf i).toNat)
  case atStart => exact ⟨0, by omega, rfl, rfl, J3.out⟩
  case round =>
    obtain ⟨k, hk, rfl, rfl, hJ⟩ := hrel
    have J4 := Lib.hid hJ
    clear J3 hJ
    by_cases hlt : k < VS.length
    · have j1 : (k : Int) < (VS.length : Int) := by omega
      obtain ⟨y, hy⟩ : ∃ y, VS[k]? = some y := ⟨_, List.getElem?_eq_getElem hlt⟩
      have hyr := HX.out.1 y (List.mem_of_getElem? hy)
      obtain ⟨b, o, c, lw, he, hb, ⟨t0, t1, t2, t3⟩, hlw⟩ := J4.out.vs.at hy
      cases he
      obtain ⟨a3, c3, rfl, -⟩ := hlw.len
      have hEn := Val.Encode_any ae y (HX.out.2.1 y (List.mem_of_getElem? hy)) _ wr _ (Nat.le_refl _) (HE.out _ J4.out.below).env (Val.rep_in hlw)
      rw [hyr, if_pos rfl] at hEn
      have hpk := HX.out.2.2.2.2 k
      have hel := encV_len hyr
      rw [← bs_size] at hel
      have HS := Lib.hid (putB_succ hy)
      have HEn := Lib.hid hEn
      generalize bs (encV y) = EY at *
      have ad : ∀ W, (Op.stringOp .add (putB VS k) EY).run Tryz.prog W = .ok (.string (putB VS k ++ EY)) W := fun W => run_string_add_sum _ _ _ (by omega)
      clear hy hyr hlw hb hEn
      go_wp2_with fail
      refine HEn.out.mono ?_; rintro e W5 ⟨rfl, hB⟩
      have J5 := Lib.hid (J4.out.later hB)
      clear hB t0 t1 t2 t3 HEn J4
      go_wp2
      go_roundw
      case rel => exact ⟨k + 1, by omega, by rw [HS.out], by go_num, J5.out⟩
      case measure => simp [intOf]; omega
    · have hkk : k = VS.length := by omega
      subst hkk
      have j1 : ¬ (VS.length : Int) < (VS.length : Int) := by omega
      have hpn := HX.out.2.2.2.2 VS.length
      have B4 := Lib.hid J4.out
      clear J4
      obtain ⟨W4, rfl⟩ : ∃ W4, W4 = wr := ⟨_, rfl⟩
      go_upto_region 18 with fail
      clear j1
      go_loopw [12, 13, 14, 15] (fun bo ro a i wr => ∃ (k : Nat) (qb qr : List (Vl × Value)), k ≤ VS.length ∧ a = .int .i64 ((putB VS k).size : Int) ∧ i = .int .i64 k ∧ qb.map (·.1) = VS.take k ∧ qr.map (·.1) = VS.take k ∧ Cv2J W4 qb qr bo ro wr) (fun _ _ _ i _ => VS.length - (intOf i).toNat)
      case atStart => exact ⟨0, [], [], by omega, rfl, rfl, rfl, rfl, Cv2J.begins W4⟩
      case round =>
        obtain ⟨k, qb, qr, hk, rfl, rfl, hqb, hqr, h2⟩ := hrel
        obtain ⟨ba, bq, rfl⟩ := row_slice h2.one
        obtain ⟨ra, rq, rfl⟩ := row_slice h2.two
        have hbl : qb.length = k := by have := congrArg List.length hqb; rw [List.length_map, List.length_take] at this; omega
        have hrl : qr.length = k := by have := congrArg List.length hqr; rw [List.length_map, List.length_take] at this; omega
        have Q1 := Lib.hid h2
        have HQ := Lib.hid (And.intro hqb hqr)
        have HL := Lib.hid (And.intro hbl hrl)
        have hb9 : qb.length ≤ 8 := by omega
        have hr9 : qr.length ≤ 8 := by omega
        have J1 := Lib.hid (B4.out.later h2.below)
        clear h2 hqb hqr hbl hrl
        by_cases hlt : k < VS.length
        · have j2 : (k : Int) < (VS.length : Int) := by omega
          obtain ⟨y, hy⟩ : ∃ y, VS[k]? = some y := ⟨_, List.getElem?_eq_getElem hlt⟩
          have hyr := HX.out.1 y (List.mem_of_getElem? hy)
          have hyf := HX.out.2.2.1 y (List.mem_of_getElem? hy)
          obtain ⟨b, o, c, lw, he, hb, ⟨t0, t1, t2, t3⟩, hlw⟩ := J1.out.vs.at hy
          cases he
          obtain ⟨a3, c3, rfl, -⟩ := hlw.len
          have HVC := Lib.hid (fun W (h : Below wr.heap.size wr W) => (show (W.cell? ⟨b, o + k * 4, none⟩ = some (.int .i64 y.k) ∧ W.cell? ⟨b, o + k * 4 + 1, none⟩ = some (.int .i64 y.n) ∧ W.cell? ⟨b, o + k * 4 + 2, none⟩ = some (.string y.s) ∧ W.cell? ⟨b, o + k * 4 + 3, none⟩ = some (.slice a3 y.l.length c3)) ∧ RepL W.heap.size W y.l (.slice a3 y.l.length c3) from
            ⟨⟨(h.cell (p := ⟨b, o + k * 4, none⟩) hb).trans t0, (h.cell (p := ⟨b, o + k * 4 + 1, none⟩) hb).trans t1, (h.cell (p := ⟨b, o + k * 4 + 2, none⟩) hb).trans t2, (h.cell (p := ⟨b, o + k * 4 + 3, none⟩) hb).trans t3⟩, (hlw.below h (Nat.le_refl _)).mono h.size⟩))
          have HEW := Lib.hid (fun W (h : Below wr.heap.size wr W) => HE.out W (next J1.out.below h))
          have HBO := Lib.hid (And.intro (fun j (hj : (Value.slice ba qb.length bq).ownBlock = some j) => (Q1.out.one.lt j hj).2) (fun j (hj : (Value.slice ra qr.length rq).ownBlock = some j) => (Q1.out.two.lt j hj).2))
          have hdec := putB_dec hy hyr
          have hD := Val.Decode_any ae (putB VS VS.length) (by omega) ((putB VS k).size : Int) wr (HEW.out _ (Below.refl _ _)).env
          rw [hdec] at hD
          have HDc := Lib.hid hD
          have HTx := Lib.hid (fun W (h : Below wr.heap.size wr W) => Text_any y hyr ae W _ (HEW.out W h) (Val.rep_in (HVC.out W h).2))
          have HSm := Lib.hid (fun W (h : Below wr.heap.size wr W) v (hv : Rep W.heap.size W y v) => same_any y y W.heap.size W v _ (Nat.le_refl _) hv (Val.rep_in (HVC.out W h).2))
          rw [show sameV y y = true from sameV_iff.2 rfl] at HSm
          have hwl := wrV_len hyr
          rw [← bs_size] at hwl
          have hrd : readR (bs (91 :: 32 :: wrV y)) 2 = .inr (y, 2 + ((bs (wrV y)).size : Int)) := by
            have h := readR_full [91, 32] [] y hyr (.inl rfl)
            rw [List.append_nil] at h
            rw [bs_size]
            exact h
          have had : ∀ W, (Op.stringOp .add ⟨#[91, 32]⟩ (bs (wrV y))).run Tryz.prog W = .ok (.string (bs (91 :: 32 :: wrV y))) W := fun W => Val.add_bs [91, 32] (wrV y) (by rw [bs_size] at hwl; simp; omega) W
          have hRs : (bs (91 :: 32 :: wrV y)).size ≤ 140737488351232 := by rw [bs_size] at hwl ⊢; simp; omega
          have HRd := Lib.hid (fun W (h : Below wr.heap.size wr W) => Read_any ae (bs (91 :: 32 :: wrV y)) hRs 2 W (HEW.out W h).env)
          rw [hrd] at HRd
          have HY := Lib.hid (And.intro hy hyf)
          generalize bs (91 :: 32 :: wrV y) = RT at *
          generalize bs (wrV y) = TW at *
          have hw2 : IntKind.i64.wrap (2 + (TW.size : Int)) = 2 + (TW.size : Int) := by rw [IntKind.wrap_i64]; omega
          clear hy hyr hyf hb t0 t1 t2 t3 hlw hdec hD hrd hRs
          go_wp2_with fail
          refine HDc.out.mono ?_; rintro e W5 ⟨hp, hB⟩
          obtain ⟨lz, rfl, hz, hfz⟩ := hp
          obtain ⟨za, zc, rfl, -⟩ := hz.len
          have BV := Lib.hid (hB.trans ((Kit.below_alloc W5 (.cells #[.int .i64 y.k, .int .i64 y.n, .string y.s, .slice za y.l.length zc] 30)).mono hB.size))
          have U5 := Lib.hid (UJ.new hB.size hz hfz)
          clear hB hz hfz HDc
          obtain ⟨⟨t0, t1, t2, t3⟩, -⟩ := HVC.out _ BV.out
          go_wp2_with fail
          refine (HTx.out _ BV.out).mono ?_; rintro e W6 ⟨rfl, hB⟩
          have BV6 := Lib.hid (next BV.out hB)
          have U6 := Lib.hid (U5.out.later hB)
          clear hB t0 t1 t2 t3 BV U5 HTx
          go_wp2_with fail
          refine (HRd.out _ BV6.out).mono ?_; rintro e W7 ⟨hp, hB⟩
          obtain ⟨lu, rfl, hu, hfu⟩ := hp
          obtain ⟨ua, uc, rfl, -⟩ := hu.len
          have BV7 := Lib.hid (up (next BV6.out hB) (.cells #[.int .i64 y.k, .int .i64 y.n, .string y.s, .slice ua y.l.length uc] 30))
          have U7 := Lib.hid ((U6.out.later hB).later (Kit.below_alloc W7 (.cells #[.int .i64 y.k, .int .i64 y.n, .string y.s, .slice ua y.l.length uc] 30)))
          have X7 := Lib.hid (UJ.new (n := wr.heap.size) (Nat.le_trans BV6.out.size hB.size) hu (fun j hj => Nat.le_trans BV6.out.size (hfu j hj)))
          clear hB hu hfu HRd BV6 U6
          go_upto_region 23 with fail
          generalize W7.alloc (.cells #[.int .i64 y.k, .int .i64 y.n, .string y.s, .slice ua y.l.length uc] 30) = W8 at *
          generalize W5.heap.size = b16 at *
          generalize W7.heap.size = b21 at *
          have HS := Lib.hid (fun W (h : Below W8.heap.size W8 W) => (show (W.cell? ⟨b16, 0, none⟩ = some (.int .i64 y.k) ∧ W.cell? ⟨b16, 1, none⟩ = some (.int .i64 y.n) ∧ W.cell? ⟨b16, 2, none⟩ = some (.string y.s) ∧ W.cell? ⟨b16, 3, none⟩ = some (.slice za y.l.length zc) ∧ W.cell? ⟨b, o + k * 4, none⟩ = some (.int .i64 y.k) ∧ W.cell? ⟨b, o + k * 4 + 1, none⟩ = some (.int .i64 y.n) ∧ W.cell? ⟨b, o + k * 4 + 2, none⟩ = some (.string y.s) ∧ W.cell? ⟨b, o + k * 4 + 3, none⟩ = some (.slice a3 y.l.length c3)) from by
            obtain ⟨s0, s1, s2, s3⟩ := (U7.out.later h).box
            obtain ⟨⟨t0, t1, t2, t3⟩, -⟩ := HVC.out W (next BV7.out h)
            exact ⟨s0, s1, s2, s3, t0, t1, t2, t3⟩))
          obtain ⟨s0, s1, s2, s3, t0, t1, t2, t3⟩ := HS.out _ (Below.refl _ _)
          go_region_held3 (fun w' => w'.cell? ⟨b16, 0, none⟩ = some (.int .i64 y.k) ∧ w'.cell? ⟨b16, 1, none⟩ = some (.int .i64 y.n) ∧ w'.cell? ⟨b16, 2, none⟩ = some (.string y.s) ∧ w'.cell? ⟨b16, 3, none⟩ = some (.slice za y.l.length zc) ∧ w'.cell? ⟨b, o + k * 4, none⟩ = some (.int .i64 y.k) ∧ w'.cell? ⟨b, o + k * 4 + 1, none⟩ = some (.int .i64 y.n) ∧ w'.cell? ⟨b, o + k * 4 + 2, none⟩ = some (.string y.s) ∧ w'.cell? ⟨b, o + k * 4 + 3, none⟩ = some (.slice a3 y.l.length c3))
            (first
              | exact ⟨s0, s1, s2, s3, t0, t1, t2, t3⟩
              | exact HS.out _ ((Below.refl _ _).drew.trans hB9))
            (first
              | (go_at_call 23; refine (HSm.out _ (next BV7.out (Below.refl _ _).drew) _ (Val.rep_in (U7.out.later (Below.refl _ _).drew).rep)).mono ?_; rintro e W9 ⟨rfl, hB9⟩))
          have hB10 : Below W8.heap.size W8 W9 := (Below.refl _ _).drew.trans hB9
          have U9 := Lib.hid (U7.out.later hB10)
          have X9 := Lib.hid (X7.out.later hB10)
          have Q9 := Lib.hid (Q1.out.later (next BV7.out hB10))
          have hsz9 : wr.heap.size ≤ W9.heap.size := (next BV7.out hB10).size
          clear hB9 hB10 s0 s1 s2 s3 t0 t1 t2 t3 U7 X7 Q1 HS HVC HSm BV7
          obtain ⟨s0, s1, s2, s3⟩ := U9.out.box
          have C9 := Lib.hid (newP W9 y (.slice za y.l.length zc) 30)
          have QA := Lib.hid (Q9.out.later (Kit.below_alloc W9 (.cells #[.int .i64 y.k, .int .i64 y.n, .string y.s, .slice za y.l.length zc] 30)))
          have UA := Lib.hid (U9.out.later (Kit.below_alloc W9 (.cells #[.int .i64 y.k, .int .i64 y.n, .string y.s, .slice za y.l.length zc] 30)))
          have XA := Lib.hid (X9.out.later (Kit.below_alloc W9 (.cells #[.int .i64 y.k, .int .i64 y.n, .string y.s, .slice za y.l.length zc] 30)))
          clear U9 X9 Q9
          go_upto_region 27 with (at_builtin; refine wpList_append_own_at _ rfl _ _ 28 rfl W4.heap.size 30 i1 (.agg zero4.toArray) 4 56 Tryz.underlying28 hi0 hz0 hz1 hz2 rfl (by decide) _ _ _ rfl QA.out.one ⟨W9.heap.size, 0, none⟩ 1 1 (cellsP (y, .slice za y.l.length zc)) rfl rfl C9.out (cellsP_one _ rfl) (by unfold maxLen; omega) (by omega) QA.out.below.size ?_; intro v10 W10 hown hg hn10 hat; have QB := Lib.hid (QA.out.push1 HY.out.2 UA.out.rep (fun j hj => ⟨fun e => by have := HBO.out.1 j e; have := UA.out.fr j hj; omega, fun e => by have := HBO.out.2 j e; have := UA.out.fr j hj; omega⟩) hg hown hat); have XB := Lib.hid (XA.out.grown HY.out.2 hg (fun j hj => HBO.out.1 j hj)); have HAT := Lib.hid (And.intro hat (fun j (hj : (Value.slice ua y.l.length uc).ownBlock = some j) => XA.out.rep.lt j hj)); clear hown hg hn10 hat QA UA XA C9)
          clear s0 s1 s2 s3
          obtain ⟨s0, s1, s2, s3⟩ := XB.out.box
          have C10 := Lib.hid (newP W10 y (.slice ua y.l.length uc) 30)
          have QC := Lib.hid (QB.out.later (Kit.below_alloc W10 (.cells #[.int .i64 y.k, .int .i64 y.n, .string y.s, .slice ua y.l.length uc] 30)))
          have XC := Lib.hid (XB.out.later (Kit.below_alloc W10 (.cells #[.int .i64 y.k, .int .i64 y.n, .string y.s, .slice ua y.l.length uc] 30)))
          clear QB XB
          go_upto_region 19 with (at_builtin; refine wpList_append_own_at _ rfl _ _ 28 rfl W4.heap.size 30 i1 (.agg zero4.toArray) 4 56 Tryz.underlying28 hi0 hz0 hz1 hz2 rfl (by decide) _ _ _ rfl QC.out.two ⟨W10.heap.size, 0, none⟩ 1 1 (cellsP (y, .slice ua y.l.length uc)) rfl rfl C10.out (cellsP_one _ rfl) (by unfold maxLen; omega) (by omega) QC.out.below.size ?_; intro v12 W12 hown hg hn12 hat; have QD := Lib.hid (QC.out.push2 HY.out.2 XC.out.rep (fun j hj => ⟨fun e => by
            rcases HAT.out.1 with h | h
            · rw [h] at e
              have := HBO.out.1 j e
              have := XC.out.fr j hj
              omega
            · rw [h] at e
              have := HAT.out.2 j hj
              cases e
              omega, fun e => by have := HBO.out.2 j e; have := XC.out.fr j hj; omega⟩) hg hown hat); clear hown hg hn12 hat QC XC C10)
          go_wp2
          go_roundw
          case rel => exact ⟨k + 1, _, _, by omega, rfl, by go_num, take_map_succ HQ.out.1 HY.out.1, take_map_succ HQ.out.2 HY.out.1, QD.out⟩
          case measure => simp [intOf]; omega
        · have hkk : k = VS.length := by omega
          subst hkk
          have j2 : ¬ (VS.length : Int) < (VS.length : Int) := by omega
          have RB := Lib.hid (show RepL wr.heap.size wr VS (.slice ba qb.length bq) by have h := Q1.out.rep1; rw [HQ.out.1, List.take_length] at h; exact h)
          have RD := Lib.hid (show RepL wr.heap.size wr VS (.slice ra qr.length rq) by have h := Q1.out.rep2; rw [HQ.out.2, List.take_length] at h; exact h)
          obtain ⟨p1, p2⟩ := J1.out.c.1
          go_wp2_with fail
          refine (HC.out _ J1.out.below _ _ J1.out.c.2 RB.out).mono ?_
          rintro e W20 ⟨rfl, hB⟩
          have J2 := Lib.hid (J1.out.later hB)
          have RD2 := Lib.hid ((RD.out.below hB (Nat.le_refl _)).mono hB.size)
          clear hB p1 p2 J1 RD RB Q1
          obtain ⟨p1, p2⟩ := J2.out.c.1
          go_wp2_with fail
          refine (HC.out _ J2.out.below _ _ J2.out.c.2 RD2.out).mono ?_
          rintro e W21 ⟨rfl, hB⟩
          have J3 := Lib.hid (J2.out.later hB)
          have RD3 := Lib.hid ((RD2.out.below hB (Nat.le_refl _)).mono hB.size)
          clear hB p1 p2 J2 RD2
          go_upto_region 31 with fail
          go_loopw [28] (fun i wr => ∃ k : Nat, k ≤ VS.length ∧ i = .int .i64 k ∧ Below W21.heap.size W21 wr) (fun i _ => VS.length - (intOf i).toNat)
          case atStart => exact ⟨0, by omega, rfl, Below.refl _ _⟩
          case round =>
            obtain ⟨k, hk, rfl, hB⟩ := hrel
            have J5 := Lib.hid (J3.out.later hB)
            have RD5 := Lib.hid ((RD3.out.below hB (Nat.le_refl _)).mono hB.size)
            have B5 := Lib.hid hB
            clear hB
            by_cases hlt3 : k < VS.length
            · have j3 : (k : Int) < (qr.length : Int) := by have := HL.out.2; omega
              have j4 : (k : Int) < (VS.length : Int) := by omega
              obtain ⟨y, hy⟩ : ∃ y, VS[k]? = some y := ⟨_, List.getElem?_eq_getElem hlt3⟩
              have hyz := HX.out.2.1 y (List.mem_of_getElem? hy)
              obtain ⟨b, o, c, lw, he, hb, ⟨t0, t1, t2, t3⟩, hlw⟩ := J5.out.vs.at hy
              cases he
              obtain ⟨a3, c3, rfl, -⟩ := hlw.len
              obtain ⟨b4, o4, c4, lw4, he, hb4, ⟨s0, s1, s2, s3⟩, hlw4⟩ := RD5.out.at hy
              simp only [Value.slice.injEq] at he
              obtain ⟨rfl, -, rfl⟩ := he
              obtain ⟨a5, c5, rfl, -⟩ := hlw4.len
              have HEW := Lib.hid (fun W (h : Below wr.heap.size wr W) => (HE.out W (next J5.out.below h)).env)
              have HS := Lib.hid (fun W (h : Below wr.heap.size wr W) => (show (W.cell? ⟨b, o + k * 4, none⟩ = some (.int .i64 y.k) ∧ W.cell? ⟨b, o + k * 4 + 1, none⟩ = some (.int .i64 y.n) ∧ W.cell? ⟨b, o + k * 4 + 2, none⟩ = some (.string y.s) ∧ W.cell? ⟨b, o + k * 4 + 3, none⟩ = some (.slice a3 y.l.length c3)
                ∧ W.cell? ⟨b4, o4 + k * 4, none⟩ = some (.int .i64 y.k) ∧ W.cell? ⟨b4, o4 + k * 4 + 1, none⟩ = some (.int .i64 y.n) ∧ W.cell? ⟨b4, o4 + k * 4 + 2, none⟩ = some (.string y.s) ∧ W.cell? ⟨b4, o4 + k * 4 + 3, none⟩ = some (.slice a5 y.l.length c5)) from
                ⟨(h.cell (p := ⟨b, o + k * 4, none⟩) hb).trans t0, (h.cell (p := ⟨b, o + k * 4 + 1, none⟩) hb).trans t1, (h.cell (p := ⟨b, o + k * 4 + 2, none⟩) hb).trans t2, (h.cell (p := ⟨b, o + k * 4 + 3, none⟩) hb).trans t3, (h.cell (p := ⟨b4, o4 + k * 4, none⟩) hb4).trans s0, (h.cell (p := ⟨b4, o4 + k * 4 + 1, none⟩) hb4).trans s1, (h.cell (p := ⟨b4, o4 + k * 4 + 2, none⟩) hb4).trans s2, (h.cell (p := ⟨b4, o4 + k * 4 + 3, none⟩) hb4).trans s3⟩))
              have HRv := Lib.hid (fun W (h : Below wr.heap.size wr W) => Refs_any y hyz ae W _ (HEW.out W h) (Val.rep_in ((hlw.below h (Nat.le_refl _)).mono h.size)))
              have HRr := Lib.hid (fun W (h : Below wr.heap.size wr W) => Refs_any y hyz ae W _ (HEW.out W h) (Val.rep_in ((hlw4.below h (Nat.le_refl _)).mono h.size)))
              have HWv := Lib.hid (fun W (h : Below wr.heap.size wr W) => Weaks_any y hyz ae W _ (HEW.out W h) (Val.rep_in ((hlw.below h (Nat.le_refl _)).mono h.size)))
              have HWr := Lib.hid (fun W (h : Below wr.heap.size wr W) => Weaks_any y hyz ae W _ (HEW.out W h) (Val.rep_in ((hlw4.below h (Nat.le_refl _)).mono h.size)))
              clear hy hyz hb hlw hb4 hlw4 J5 RD5
              go_wp2_with fail
              refine (HRr.out _ (Below.refl _ _)).mono ?_
              rintro e W31 ⟨⟨nv, rfl, hn1⟩, hB1⟩
              obtain ⟨na, nc, rfl, -⟩ := hn1
              clear t0 t1 t2 t3 s0 s1 s2 s3
              obtain ⟨t0, t1, t2, t3, s0, s1, s2, s3⟩ := HS.out _ hB1
              go_wp2_with fail
              refine (HRv.out _ hB1).mono ?_
              rintro e W32 ⟨⟨nv, rfl, hn2⟩, hB2⟩
              obtain ⟨nb, nd, rfl, -⟩ := hn2
              have hB3 : Below wr.heap.size wr W32 := next hB1 hB2
              clear t0 t1 t2 t3 s0 s1 s2 s3 HRr HRv hB1 hB2
              obtain ⟨t0, t1, t2, t3, s0, s1, s2, s3⟩ := HS.out _ hB3
              go_upto_region 35 with fail
              go_region_held3 (fun w' => w'.cell? ⟨b, o + k * 4, none⟩ = some (.int .i64 y.k) ∧ w'.cell? ⟨b, o + k * 4 + 1, none⟩ = some (.int .i64 y.n) ∧ w'.cell? ⟨b, o + k * 4 + 2, none⟩ = some (.string y.s) ∧ w'.cell? ⟨b, o + k * 4 + 3, none⟩ = some (.slice a3 y.l.length c3) ∧ w'.cell? ⟨b4, o4 + k * 4, none⟩ = some (.int .i64 y.k) ∧ w'.cell? ⟨b4, o4 + k * 4 + 1, none⟩ = some (.int .i64 y.n) ∧ w'.cell? ⟨b4, o4 + k * 4 + 2, none⟩ = some (.string y.s) ∧ w'.cell? ⟨b4, o4 + k * 4 + 3, none⟩ = some (.slice a5 y.l.length c5))
                (first
                  | exact ⟨t0, t1, t2, t3, s0, s1, s2, s3⟩
                  | exact HS.out _ (next (next hB3 (Below.refl _ _).drew) hB7)
                  | exact HS.out _ (next (next (next hB3 (Below.refl _ _).drew) hB7) hB8))
                (first
                  | (go_at_call 19; refine (HWv.out _ (next (next hB3 (Below.refl _ _).drew) hB7)).mono ?_; rintro e w8 ⟨⟨nv, rfl, hn8⟩, hB8⟩; obtain ⟨ng, nh, rfl, -⟩ := hn8)
                  | (go_at_call 19; refine (HWr.out _ (next hB3 (Below.refl _ _).drew)).mono ?_; rintro e w7 ⟨⟨nv, rfl, hn7⟩, hB7⟩; obtain ⟨ne, nf, rfl, -⟩ := hn7))
              have B9 := Lib.hid (next B5.out (next (next (next hB3 (Below.refl _ _).drew) hB7) hB8))
              clear hB3 hB7 hB8 t0 t1 t2 t3 s0 s1 s2 s3
              go_wp2
              go_roundw
              case rel => exact ⟨k + 1, by omega, by go_num, B9.out⟩
              case measure => simp [intOf]; omega
            · have hkk : k = VS.length := by omega
              subst hkk
              have j3 : ¬ (VS.length : Int) < (qr.length : Int) := by have := HL.out.2; omega
              clear RD5
              go_wp2
              go_ret
              exact ⟨ret_bool (by simp), J5.out.below⟩
theorem values4_row {w : World} (x : Raw4) (hx : x.Ok) (xlv : Value) (hl : FRawL w x.l xlv) (l : List Int) (hlb : ∀ y ∈ l, -9223372036854775808 ≤ y ∧ y ≤ 9223372036854775807) (lv : Value) (hi : IntsL w l lv) (ae : Addr) (hE : EnvT ae w) :
    Calls Tryz.prog 6 #[.agg #[.int .i64 x.n, xlv], lv] w fun e w' => e = .returned (.bool true) ∧ Below w.heap.size w w' := values4_any ae x hx l hlb w xlv lv hl hi hE
end Go.Proofs.YtmobnlofbopbeaaGreatDoor.Cls
