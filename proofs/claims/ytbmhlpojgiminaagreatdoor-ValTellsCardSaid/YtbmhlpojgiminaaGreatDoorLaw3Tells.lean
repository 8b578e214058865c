/- Layer 3's laws: ValTells. -/
import Derived.Test.YtbmhlpojgiminaaGreatDoorMF
import Derived.Test.YtbmhlpojgiminaaGreatDoorLaw3Nums
import Derived.Test.YtbmhlpojgiminaaGreatDoorMG
import Derived.Test.YtbmhlpojgiminaaGreatDoorMH
import Derived.Deep.RegionHeld
namespace Go.Proofs.YtbmhlpojgiminaaGreatDoor.Val
open Go.RowKit
open Kit (ret_int ret_bool Moved)

attribute [local go_sem] Oper.semAt_some

theorem valOf_short (x : Raw) : (valOf x).l.length ≤ 12 := by
  unfold valOf
  split
  · split
    · show ([] : List Vl).length ≤ 12; simp
    · rw [show (valOne _ _ _).l = [] from valOne_flat _ _ _]; simp
  · show ((x.l.take 12).map oneOf).length ≤ 12; simp; omega
theorem odd_fits {x : Vl} (h : x.fits) (K : Nat) (n : Int) {s : ByteArray} (hs : s.size ≤ 140737488351232) : (oddV x K n s).fits := by
  have h0 : (bs []).size ≤ 140737488351232 := by decide
  have hc : ∀ k n s l, Vl.fits (.mk k n s l) = (s.size ≤ 140737488351232 ∧ ∀ y ∈ l, y.s.size ≤ 140737488351232) := fun _ _ _ _ => rfl
  unfold oddV
  split
  · rw [hc]; exact h
  · split
    · rw [hc]; exact h
    · split
      · rw [hc]; exact ⟨hs, h.2⟩
      · split
        · rw [hc]
          refine ⟨h.1, fun y hy => ?_⟩
          rcases List.mem_append.1 hy with hy | hy
          · exact h.2 y hy
          · rw [List.mem_singleton] at hy; subst hy; exact h0
        · split
          · rw [hc]
            refine ⟨h.1, fun y hy => ?_⟩
            rcases List.mem_append.1 hy with hy | hy
            · exact h.2 y hy
            · obtain ⟨i, _, rfl⟩ := List.mem_map.1 hy; exact h0
          · rw [hc]
            refine ⟨h.1, fun y hy => ?_⟩
            rw [List.mem_singleton] at hy; subst hy; exact h.1
/-- What lies in memory while three values are gone through. -/
structure TlJ (w : World) (K O : Int) (V Y U : Vl) (bv bw bt g : Nat) (vlv wlv : Value) (W : World) : Prop where
  v : Bx W bv V vlv
  y : Bx W bw Y wlv
  t0 : W.cell? ⟨bt, 0, none⟩ = some (.int .i64 K)
  t1 : W.cell? ⟨bt, 1, none⟩ = some (.int .i64 O)
  list : RepL W.heap.size W [V, Y, U] (.slice (some ⟨g, 0, none⟩) 3 3)
  below : Below w.heap.size w W
theorem TlJ.later {w : World} {K O : Int} {V Y U : Vl} {bv bw bt g : Nat} {vlv wlv : Value} {W W' : World} (h : TlJ w K O V Y U bv bw bt g vlv wlv W) (hB : Below W.heap.size W W') : TlJ w K O V Y U bv bw bt g vlv wlv W' :=
  ⟨h.v.later hB, h.y.later hB, (hB.cell (p := ⟨bt, 0, none⟩) (Kit.lt_of_cell h.t0)).trans h.t0, (hB.cell (p := ⟨bt, 1, none⟩) (Kit.lt_of_cell h.t1)).trans h.t1, (h.list.below hB (Nat.le_refl _)).mono hB.size, next h.below hB⟩
/-- And the one that is at hand. -/
structure TxJ (w : World) (K O : Int) (V Y U X : Vl) (bv bw bt g bx : Nat) (vlv wlv xlv : Value) (W : World) : Prop where
  j : TlJ w K O V Y U bv bw bt g vlv wlv W
  x : Bx W bx X xlv
theorem TxJ.later {w : World} {K O : Int} {V Y U X : Vl} {bv bw bt g bx : Nat} {vlv wlv xlv : Value} {W W' : World} (h : TxJ w K O V Y U X bv bw bt g bx vlv wlv xlv W) (hB : Below W.heap.size W W') : TxJ w K O V Y U X bv bw bt g bx vlv wlv xlv W' := ⟨h.j.later hB, h.x.later hB⟩
theorem tellsHeld {w : World} {K O : Int} {V Y U X : Vl} {bv bw bt g bx : Nat} {vlv wlv xlv : Value} {W : World} (h : TxJ w K O V Y U X bv bw bt g bx vlv wlv xlv W) :
    W.cell? ⟨bx, 0, none⟩ = some (.int .i64 X.k) ∧ W.cell? ⟨bx, 1, none⟩ = some (.int .i64 X.n) ∧ W.cell? ⟨bx, 2, none⟩ = some (.string X.s) ∧ W.cell? ⟨bx, 3, none⟩ = some xlv ∧ W.cell? ⟨bv, 0, none⟩ = some (.int .i64 V.k) ∧ W.cell? ⟨bv, 1, none⟩ = some (.int .i64 V.n) ∧ W.cell? ⟨bv, 2, none⟩ = some (.string V.s) ∧ W.cell? ⟨bv, 3, none⟩ = some vlv ∧ W.cell? ⟨bw, 0, none⟩ = some (.int .i64 Y.k) ∧ W.cell? ⟨bw, 1, none⟩ = some (.int .i64 Y.n) ∧ W.cell? ⟨bw, 2, none⟩ = some (.string Y.s) ∧ W.cell? ⟨bw, 3, none⟩ = some wlv := by
  obtain ⟨p1, p2, p3, p4⟩ := h.x.1
  obtain ⟨q1, q2, q3, q4⟩ := h.j.v.1
  obtain ⟨r1, r2, r3, r4⟩ := h.j.y.1
  exact ⟨p1, p2, p3, p4, q1, q2, q3, q4, r1, r2, r3, r4⟩
/-- Three values, laid one behind the other. -/
theorem three_new (W : World) {V Y U : Vl} {vlv wlv ulv : Value} (h1 : RepL W.heap.size W V.l vlv) (h2 : RepL W.heap.size W Y.l wlv) (h3 : RepL W.heap.size W U.l ulv) :
    RepL (W.alloc (.cells #[.int .i64 V.k, .int .i64 V.n, .string V.s, vlv, .int .i64 Y.k, .int .i64 Y.n, .string Y.s, wlv, .int .i64 U.k, .int .i64 U.n, .string U.s, ulv] 30)).heap.size (W.alloc (.cells #[.int .i64 V.k, .int .i64 V.n, .string V.s, vlv, .int .i64 Y.k, .int .i64 Y.n, .string Y.s, wlv, .int .i64 U.k, .int .i64 U.n, .string U.s, ulv] 30)) [V, Y, U] (.slice (some ⟨W.heap.size, 0, none⟩) 3 3) := by
  have hB := Kit.below_alloc W (.cells #[.int .i64 V.k, .int .i64 V.n, .string V.s, vlv, .int .i64 Y.k, .int .i64 Y.n, .string Y.s, wlv, .int .i64 U.k, .int .i64 U.n, .string U.s, ulv] 30)
  have hr : ∀ (X : Vl) (lv : Value), RepL W.heap.size W X.l lv → Rep (W.alloc (.cells #[.int .i64 V.k, .int .i64 V.n, .string V.s, vlv, .int .i64 Y.k, .int .i64 Y.n, .string Y.s, wlv, .int .i64 U.k, .int .i64 U.n, .string U.s, ulv] 30)).heap.size (W.alloc (.cells #[.int .i64 V.k, .int .i64 V.n, .string V.s, vlv, .int .i64 Y.k, .int .i64 Y.n, .string Y.s, wlv, .int .i64 U.k, .int .i64 U.n, .string U.s, ulv] 30)) X (aggV X.k X.n X.s lv) := fun X lv h => rep_in ((h.below hB (Nat.le_refl _)).mono hB.size)
  have hc : ∀ (o : Nat) (cs : List Value), (∀ j v, cs[j]? = some v → ([.int .i64 V.k, .int .i64 V.n, .string V.s, vlv, .int .i64 Y.k, .int .i64 Y.n, .string Y.s, wlv, .int .i64 U.k, .int .i64 U.n, .string U.s, ulv] : List Value)[o + j]? = some v) → (W.alloc (.cells #[.int .i64 V.k, .int .i64 V.n, .string V.s, vlv, .int .i64 Y.k, .int .i64 Y.n, .string Y.s, wlv, .int .i64 U.k, .int .i64 U.n, .string U.s, ulv] 30)).rangeAt W.heap.size o cs := fun o cs h j v hv => Kit.cell_new W _ _ (o + j) (by rw [← Array.getElem?_toList]; exact h j v hv)
  refine .inr ⟨W.heap.size, 0, 3, by simp, by simp, rfl, by simp, by unfold maxLen; decide, repC_cons.2 ⟨⟨_, hr V vlv h1, hc 0 _ ?_⟩, repC_cons.2 ⟨⟨_, hr Y wlv h2, hc 4 _ ?_⟩, repC_cons.2 ⟨⟨_, hr U ulv h3, hc 8 _ ?_⟩, repC_nil⟩⟩⟩⟩
  all_goals
    intro j v hv
    match j, hv with
    | 0, hv => exact hv
    | 1, hv => exact hv
    | 2, hv => exact hv
    | 3, hv => exact hv
    | j + 4, hv => exact absurd (List.getElem?_eq_some_iff.1 hv).1 (by show ¬ (j + 4 < 4); omega)

/-- And the types that are gone through. -/
structure TzJ (w : World) (K O T1 T2 : Int) (V Y U X : Vl) (bv bw bt g bx gt : Nat) (vlv wlv xlv : Value) (W : World) : Prop where
  k : TxJ w K O V Y U X bv bw bt g bx vlv wlv xlv W
  ts : ∀ (j : Nat) (z : Int × Int), [(K, O), (T1, T2), (X.k, 0)][j]? = some z → W.cell? ⟨gt, j * 2, none⟩ = some (.int .i64 z.1) ∧ W.cell? ⟨gt, j * 2 + 1, none⟩ = some (.int .i64 z.2)
theorem TzJ.later {w : World} {K O T1 T2 : Int} {V Y U X : Vl} {bv bw bt g bx gt : Nat} {vlv wlv xlv : Value} {W W' : World} (h : TzJ w K O T1 T2 V Y U X bv bw bt g bx gt vlv wlv xlv W) (hB : Below W.heap.size W W') : TzJ w K O T1 T2 V Y U X bv bw bt g bx gt vlv wlv xlv W' :=
  ⟨h.k.later hB, fun j z hz => ⟨(hB.cell (p := ⟨gt, j * 2, none⟩) (Kit.lt_of_cell (h.ts j z hz).1)).trans (h.ts j z hz).1, (hB.cell (p := ⟨gt, j * 2 + 1, none⟩) (Kit.lt_of_cell (h.ts j z hz).2)).trans (h.ts j z hz).2⟩⟩
theorem types_new (W : World) (K O T1 T2 N : Int) : ∀ (j : Nat) (z : Int × Int), [(K, O), (T1, T2), (N, 0)][j]? = some z → (W.alloc (.cells #[.int .i64 K, .int .i64 O, .int .i64 T1, .int .i64 T2, .int .i64 N, .int .i64 0] 26)).cell? ⟨W.heap.size, j * 2, none⟩ = some (.int .i64 z.1) ∧ (W.alloc (.cells #[.int .i64 K, .int .i64 O, .int .i64 T1, .int .i64 T2, .int .i64 N, .int .i64 0] 26)).cell? ⟨W.heap.size, j * 2 + 1, none⟩ = some (.int .i64 z.2) := fun j z hz => by
  match j, hz with
  | 0, hz => cases hz; exact ⟨Kit.cell_new W _ _ 0 rfl, Kit.cell_new W _ _ 1 rfl⟩
  | 1, hz => cases hz; exact ⟨Kit.cell_new W _ _ 2 rfl, Kit.cell_new W _ _ 3 rfl⟩
  | 2, hz => cases hz; exact ⟨Kit.cell_new W _ _ 4 rfl, Kit.cell_new W _ _ 5 rfl⟩
  | j + 3, hz => simp at hz
/-- A value and a type that are at hand. -/
structure TeJ (w : World) (K O T1 T2 : Int) (V Y U X : Vl) (z : Int × Int) (bv bw bt g bx gt bz : Nat) (vlv wlv xlv : Value) (W : World) : Prop where
  h : TzJ w K O T1 T2 V Y U X bv bw bt g bx gt vlv wlv xlv W
  z0 : W.cell? ⟨bz, 0, none⟩ = some (.int .i64 z.1)
  z1 : W.cell? ⟨bz, 1, none⟩ = some (.int .i64 z.2)
theorem TeJ.later {w : World} {K O T1 T2 : Int} {V Y U X : Vl} {z : Int × Int} {bv bw bt g bx gt bz : Nat} {vlv wlv xlv : Value} {W W' : World} (h : TeJ w K O T1 T2 V Y U X z bv bw bt g bx gt bz vlv wlv xlv W) (hB : Below W.heap.size W W') : TeJ w K O T1 T2 V Y U X z bv bw bt g bx gt bz vlv wlv xlv W' :=
  ⟨h.h.later hB, (hB.cell (p := ⟨bz, 0, none⟩) (Kit.lt_of_cell h.z0)).trans h.z0, (hB.cell (p := ⟨bz, 1, none⟩) (Kit.lt_of_cell h.z1)).trans h.z1⟩
theorem typeHeld {w : World} {K O T1 T2 : Int} {V Y U X : Vl} {z : Int × Int} {bv bw bt g bx gt bz : Nat} {vlv wlv xlv : Value} {W : World} (h : TeJ w K O T1 T2 V Y U X z bv bw bt g bx gt bz vlv wlv xlv W) :
    W.cell? ⟨bx, 0, none⟩ = some (.int .i64 X.k) ∧ W.cell? ⟨bx, 1, none⟩ = some (.int .i64 X.n) ∧ W.cell? ⟨bx, 2, none⟩ = some (.string X.s) ∧ W.cell? ⟨bx, 3, none⟩ = some xlv ∧ W.cell? ⟨bz, 0, none⟩ = some (.int .i64 z.1) ∧ W.cell? ⟨bz, 1, none⟩ = some (.int .i64 z.2) := by
  obtain ⟨p1, p2, p3, p4⟩ := h.h.k.x.1
  exact ⟨p1, p2, p3, p4, h.z0, h.z1⟩
theorem zero_lies {B : Nat} {w : World} (K O : Int) : Rep B w (zeroV K O) (flatV (zeroV K O).k 0 ⟨#[]⟩) := by
  unfold zeroV
  split <;> exact rep_flat
theorem zero_same (K O : Int) (W : World) : Calls Tryz.prog 21 #[flatV (zeroV K O).k 0 ⟨#[]⟩, flatV (zeroV K O).k 0 ⟨#[]⟩] W fun e W' => e = .returned (.bool true) ∧ Below W.heap.size W W' := by
  have h := refSame_any (zeroV K O) (zeroV K O) W.heap.size W _ _ (Nat.le_refl _) (zero_lies K O) (zero_lies K O)
  rwa [sameV_iff.2 rfl] at h

/-- What Encode, and the document's, answer. -/
theorem enc_two (ae : Addr) (X : Vl) (hf : X.fits) : ∃ (P : ByteArray) (E : Int), (∀ (W : World) (v : Value), EnvT ae W → Rep W.heap.size W X v → Calls Tryz.prog 7 #[v] W fun e W' => e = .returned (.tuple #[.string P, .int .i64 E]) ∧ Below W.heap.size W W') ∧
    ∀ (W : World) (v : Value), Rep W.heap.size W X v → Calls Tryz.prog 8 #[v] W fun e W' => e = .returned (.tuple #[.string P, .int .i64 E]) ∧ Below W.heap.size W W' := by
  cases h : rightV X
  · exact ⟨⟨#[]⟩, 30, fun W v hE hr => by have := Encode_any ae X hf _ W v (Nat.le_refl _) hE.env hr; rwa [h] at this, fun W v hr => by have := refEncode_any X hf _ W v (Nat.le_refl _) hr; rwa [h] at this⟩
  · exact ⟨bs (encV X), 0, fun W v hE hr => by have := Encode_any ae X hf _ W v (Nat.le_refl _) hE.env hr; rwa [h] at this, fun W v hr => by have := refEncode_any X hf _ W v (Nat.le_refl _) hr; rwa [h] at this⟩
/-- What Text, and the document's, answer. -/
theorem text_two (ae : Addr) (X : Vl) (hf : X.fits) : ∃ (P : ByteArray) (E : Int), (∀ (W : World) (v : Value), EnvT ae W → Rep W.heap.size W X v → Calls Tryz.prog 9 #[v] W fun e W' => e = .returned (.tuple #[.string P, .int .i64 E]) ∧ Below W.heap.size W W') ∧
    ∀ (W : World) (v : Value), Rep W.heap.size W X v → Calls Tryz.prog 10 #[v] W fun e W' => e = .returned (.tuple #[.string P, .int .i64 E]) ∧ Below W.heap.size W W' := by
  cases h : rightV X
  · exact ⟨⟨#[]⟩, 30, fun W v hE hr => Text_wrong X hf h ae W v hE hr, fun W v hr => by have := refText_any X hf _ W v (Nat.le_refl _) hr; rwa [h] at this⟩
  · exact ⟨bs (wrV X), 0, fun W v hE hr => Text_any X h ae W v hE hr, fun W v hr => by have := refText_any X hf _ W v (Nat.le_refl _) hr; rwa [h] at this⟩

set_option maxRecDepth 100000 in
set_option maxHeartbeats 16000000 in
theorem tells_law (ae : Addr) (x y : Raw) (hx : x.Ok) (hy : y.Ok) (c n : Int) (c1 : -9223372036854775808 ≤ c) (c2 : c ≤ 9223372036854775807) (n1 : -9223372036854775808 ≤ n) (n2 : n ≤ 9223372036854775807) (s : ByteArray) (hs : s.size ≤ 140737488351232) (K O : Int) (a b : Int) (a1 : -9223372036854775808 ≤ a) (a2 : a ≤ 9223372036854775807) (b1 : -9223372036854775808 ≤ b) (b2 : b ≤ 9223372036854775807) (w : World) (xlv ylv : Value) (hl : RawL w x.l xlv) (hm : RawL w y.l ylv) (hE : EnvT ae w) :
    Calls Tryz.prog 3 #[.agg #[.int .i64 x.k, .int .i64 x.n, .string x.s, xlv], .agg #[.int .i64 y.k, .int .i64 y.n, .string y.s, ylv], .int .i64 c, .int .i64 n, .string s, .agg #[.int .i64 K, .int .i64 O], .int .i64 a, .int .i64 b] w fun e w' => e = .returned (.bool true) ∧ Below w.heap.size w w' := by
  have hOx := fun W (h : Below w.heap.size w W) => ValOf_any x hx W xlv (hl.below h)
  have hOy := fun W (h : Below w.heap.size w W) => ValOf_any y hy W ylv (hm.below h)
  unfold OfPost at hOx hOy
  have hfz := And.intro (valOf_flat x) (show (valOf x).l.length ≤ 1000 by have := valOf_short x; omega)
  have hfx := (rightV_enc (valOf_right x)).fits
  have hfy := (rightV_enc (valOf_right y)).fits
  generalize valOf x = V at *
  generalize valOf y = Y at *
  have HE := Lib.hid (fun W (h : Below w.heap.size w W) => hE.below h)
  have HOx := Lib.hid hOx
  have HOy := Lib.hid hOy
  have h70 : (s.extract 0 (min (s.size : Int) 70).toNat).size ≤ 140737488351232 := by rw [ext_size]; omega
  obtain ⟨U, hU⟩ : ∃ U, U = oddV V (pickN c 6) n (s.extract 0 (min (s.size : Int) 70).toNat) := ⟨_, rfl⟩
  have hodd := odd_any V hfz.1 hfz.2 c n (s.extract 0 (min (s.size : Int) 70).toNat) c1 c2 n1 n2
  rw [← hU] at hodd
  have HF := Lib.hid (show ∀ X ∈ [V, Y, U], X.fits from fun X hX => by
    rcases List.mem_cons.1 hX with rfl | hX
    · exact hfx
    · rcases List.mem_cons.1 hX with rfl | hX
      · exact hfy
      · rw [List.mem_singleton] at hX; subst hX; rw [hU]; exact odd_fits hfx _ _ h70)
  have HOd := Lib.hid hodd
  have HT := Lib.hid (fun W => valType_any a b a1 a2 b1 b2 W)
  clear hodd hU hfz hfx hfy h70
  obtain ⟨xa0, xc0, rfl, -⟩ := hl.len
  obtain ⟨ya0, yc0, rfl, -⟩ := hm.len
  have B0 := Lib.hid (up (up (up (Below.refl w.heap.size w) (.cells #[.int .i64 x.k, .int .i64 x.n, .string x.s, .slice xa0 x.l.length xc0] 24)) (.cells #[.int .i64 y.k, .int .i64 y.n, .string y.s, .slice ya0 y.l.length yc0] 24)) (.cells #[.int .i64 K, .int .i64 O] 26))
  have A0 := Lib.hid (((Kit.box4_new w (.int .i64 x.k) (.int .i64 x.n) (.string x.s) (.slice xa0 x.l.length xc0) 24).kept (.cells #[.int .i64 y.k, .int .i64 y.n, .string y.s, .slice ya0 y.l.length yc0] 24)).kept (.cells #[.int .i64 K, .int .i64 O] 26))
  have C0 := Lib.hid ((Kit.box4_new (w.alloc (.cells #[.int .i64 x.k, .int .i64 x.n, .string x.s, .slice xa0 x.l.length xc0] 24)) (.int .i64 y.k) (.int .i64 y.n) (.string y.s) (.slice ya0 y.l.length yc0) 24).kept (.cells #[.int .i64 K, .int .i64 O] 26))
  have D0 := Lib.hid (And.intro (Kit.cell_new ((w.alloc (.cells #[.int .i64 x.k, .int .i64 x.n, .string x.s, .slice xa0 x.l.length xc0] 24)).alloc (.cells #[.int .i64 y.k, .int .i64 y.n, .string y.s, .slice ya0 y.l.length yc0] 24)) #[.int .i64 K, .int .i64 O] 26 0 rfl) (Kit.cell_new ((w.alloc (.cells #[.int .i64 x.k, .int .i64 x.n, .string x.s, .slice xa0 x.l.length xc0] 24)).alloc (.cells #[.int .i64 y.k, .int .i64 y.n, .string y.s, .slice ya0 y.l.length yc0] 24)) #[.int .i64 K, .int .i64 O] 26 1 rfl))
  simp only [World.size_alloc] at C0 D0
  clear hE hOx hOy hl hm hx hy hs a1 a2 b1 b2 c1 c2 n1 n2
  have m1 : (0 : Int) ≤ min (s.size : Int) 70 := by omega
  have m2 : min (s.size : Int) 70 ≤ (s.size : Int) := by omega
  go_enter Tryz.func3, Tryz.ntmps3
  go_wp2_with fail
  refine (awake3_any ae _ (HE.out _ B0.out).env).mono ?_
  rintro e W1 ⟨rfl, hB⟩
  have B1 := Lib.hid (next B0.out hB)
  have A1 := Lib.hid (A0.out.below hB A0.out.lt)
  have C1 := Lib.hid (C0.out.below hB C0.out.lt)
  have D1 := Lib.hid (And.intro ((hB.cell (p := ⟨w.heap.size + 1 + 1, 0, none⟩) (Kit.lt_of_cell D0.out.1)).trans D0.out.1) ((hB.cell (p := ⟨w.heap.size + 1 + 1, 1, none⟩) (Kit.lt_of_cell D0.out.2)).trans D0.out.2))
  obtain ⟨p1, p2, p3, p4⟩ := A1.out
  clear hB B0 A0 C0 D0
  go_wp2_with fail
  refine (HOx.out _ B1.out).mono ?_
  rintro e W2 ⟨⟨lv, rfl, hlv, -⟩, hB⟩
  have B2 := Lib.hid (next B1.out hB)
  obtain ⟨va, vc, rfl, -⟩ := hlv.len
  have P2 := Lib.hid (Bx.new W2 V _ hlv)
  have C2 := Lib.hid ((C1.out.below hB C1.out.lt).kept (.cells #[.int .i64 V.k, .int .i64 V.n, .string V.s, .slice va V.l.length vc] 30))
  have D2 := Lib.hid (And.intro ((hB.cell (p := ⟨w.heap.size + 1 + 1, 0, none⟩) (Kit.lt_of_cell D1.out.1)).trans D1.out.1) ((hB.cell (p := ⟨w.heap.size + 1 + 1, 1, none⟩) (Kit.lt_of_cell D1.out.2)).trans D1.out.2))
  clear hB hlv B1 A1 C1 D1 p1 p2 p3 p4
  obtain ⟨p1, p2, p3, p4⟩ := C2.out
  go_wp2_with fail
  refine (HOy.out _ (up B2.out _)).mono ?_
  rintro e W3 ⟨⟨lv, rfl, hlv, -⟩, hB⟩
  obtain ⟨wa, wc2, hwe, -⟩ := hlv.len
  subst hwe
  have B3 := Lib.hid (up (next (up B2.out _) hB) (.cells #[.int .i64 Y.k, .int .i64 Y.n, .string Y.s, .slice wa Y.l.length wc2] 30))
  have P3 := Lib.hid ((P2.out.later hB).later (Kit.below_alloc _ (.cells #[.int .i64 Y.k, .int .i64 Y.n, .string Y.s, .slice wa Y.l.length wc2] 30)))
  have Q3 := Lib.hid (Bx.new W3 Y _ hlv)
  have D3 := Lib.hid (And.intro (Kit.cell_kept (.cells #[.int .i64 Y.k, .int .i64 Y.n, .string Y.s, .slice wa Y.l.length wc2] 30) ((hB.cell (p := ⟨w.heap.size + 1 + 1, 0, none⟩) (Kit.lt_of_cell (Kit.cell_kept (.cells #[.int .i64 V.k, .int .i64 V.n, .string V.s, .slice va V.l.length vc] 30) D2.out.1))).trans (Kit.cell_kept (.cells #[.int .i64 V.k, .int .i64 V.n, .string V.s, .slice va V.l.length vc] 30) D2.out.1))) (Kit.cell_kept (.cells #[.int .i64 Y.k, .int .i64 Y.n, .string Y.s, .slice wa Y.l.length wc2] 30) ((hB.cell (p := ⟨w.heap.size + 1 + 1, 1, none⟩) (Kit.lt_of_cell (Kit.cell_kept (.cells #[.int .i64 V.k, .int .i64 V.n, .string V.s, .slice va V.l.length vc] 30) D2.out.2))).trans (Kit.cell_kept (.cells #[.int .i64 V.k, .int .i64 V.n, .string V.s, .slice va V.l.length vc] 30) D2.out.2))))
  clear hB hlv B2 C2 D2 P2 p1 p2 p3 p4
  go_upto_region 4 with fail
  generalize (W3.alloc (.cells #[.int .i64 Y.k, .int .i64 Y.n, .string Y.s, .slice wa Y.l.length wc2] 30)) = W4 at *
  generalize W2.heap.size = bv at *
  generalize W3.heap.size = bw at *
  generalize w.heap.size + 1 + 1 = bt at *
  have s0 : W4.drew.cell? ⟨bv, 0, none⟩ = some (.int .i64 V.k) ∧ W4.drew.cell? ⟨bv, 1, none⟩ = some (.int .i64 V.n) ∧ W4.drew.cell? ⟨bv, 2, none⟩ = some (.string V.s) ∧ W4.drew.cell? ⟨bv, 3, none⟩ = some (.slice va V.l.length vc) ∧ W4.drew.cell? ⟨bw, 0, none⟩ = some (.int .i64 Y.k) ∧ W4.drew.cell? ⟨bw, 1, none⟩ = some (.int .i64 Y.n) ∧ W4.drew.cell? ⟨bw, 2, none⟩ = some (.string Y.s) ∧ W4.drew.cell? ⟨bw, 3, none⟩ = some (.slice wa Y.l.length wc2) := ⟨P3.out.1.1, P3.out.1.2.1, P3.out.1.2.2.1, P3.out.1.2.2.2, Q3.out.1.1, Q3.out.1.2.1, Q3.out.1.2.2.1, Q3.out.1.2.2.2⟩
  go_wp2_with fail
  go_region_held3 (fun W' => W'.cell? ⟨bv, 0, none⟩ = some (.int .i64 V.k) ∧ W'.cell? ⟨bv, 1, none⟩ = some (.int .i64 V.n) ∧ W'.cell? ⟨bv, 2, none⟩ = some (.string V.s) ∧ W'.cell? ⟨bv, 3, none⟩ = some (.slice va V.l.length vc) ∧ W'.cell? ⟨bw, 0, none⟩ = some (.int .i64 Y.k) ∧ W'.cell? ⟨bw, 1, none⟩ = some (.int .i64 Y.n) ∧ W'.cell? ⟨bw, 2, none⟩ = some (.string Y.s) ∧ W'.cell? ⟨bw, 3, none⟩ = some (.slice wa Y.l.length wc2))
    (first
      | exact s0
      | exact s1
      | exact ⟨Kit.cell_kept _ s1.1, Kit.cell_kept _ s1.2.1, Kit.cell_kept _ s1.2.2.1, Kit.cell_kept _ s1.2.2.2.1, Kit.cell_kept _ s1.2.2.2.2.1, Kit.cell_kept _ s1.2.2.2.2.2.1, Kit.cell_kept _ s1.2.2.2.2.2.2.1, Kit.cell_kept _ s1.2.2.2.2.2.2.2⟩)
    (first
      | (go_at_call 6; refine (HOd.out W4.heap.size W4.drew _ (Nat.le_refl _) P3.out.2.drew).mono ?_; rintro e W5 ⟨⟨lv, rfl, hlv, -⟩, hB⟩; obtain ⟨ua, uc, hue, -⟩ := hlv.len; subst hue; have P5 := Lib.hid (P3.out.later ((Below.refl W4.heap.size W4).drew.trans hB)); have Q5 := Lib.hid (Q3.out.later ((Below.refl W4.heap.size W4).drew.trans hB)); have B5 := Lib.hid (next B3.out ((Below.refl W4.heap.size W4).drew.trans hB)); have L5 := Lib.hid hlv; have s1 : W5.cell? ⟨bv, 0, none⟩ = some (.int .i64 V.k) ∧ W5.cell? ⟨bv, 1, none⟩ = some (.int .i64 V.n) ∧ W5.cell? ⟨bv, 2, none⟩ = some (.string V.s) ∧ W5.cell? ⟨bv, 3, none⟩ = some (.slice va V.l.length vc) ∧ W5.cell? ⟨bw, 0, none⟩ = some (.int .i64 Y.k) ∧ W5.cell? ⟨bw, 1, none⟩ = some (.int .i64 Y.n) ∧ W5.cell? ⟨bw, 2, none⟩ = some (.string Y.s) ∧ W5.cell? ⟨bw, 3, none⟩ = some (.slice wa Y.l.length wc2) := ⟨P5.out.1.1, P5.out.1.2.1, P5.out.1.2.2.1, P5.out.1.2.2.2, Q5.out.1.1, Q5.out.1.2.1, Q5.out.1.2.2.1, Q5.out.1.2.2.2⟩; have D5 := Lib.hid (And.intro ((hB.cell (p := ⟨bt, 0, none⟩) (Kit.lt_of_cell D3.out.1)).trans D3.out.1) ((hB.cell (p := ⟨bt, 1, none⟩) (Kit.lt_of_cell D3.out.2)).trans D3.out.2)); clear hB hlv))
  have J6 : Hid (TlJ w K O V Y U bv bw bt W5.heap.size (.slice va V.l.length vc) (.slice wa Y.l.length wc2) (W5.alloc (.cells #[.int .i64 V.k, .int .i64 V.n, .string V.s, .slice va V.l.length vc, .int .i64 Y.k, .int .i64 Y.n, .string Y.s, .slice wa Y.l.length wc2, .int .i64 U.k, .int .i64 U.n, .string U.s, .slice ua U.l.length uc] 30))) := Lib.hid ⟨P5.out.later (Kit.below_alloc W5 _), Q5.out.later (Kit.below_alloc W5 _), Kit.cell_kept _ D5.out.1, Kit.cell_kept _ D5.out.2, three_new W5 P5.out.2 Q5.out.2 L5.out, up B5.out _⟩
  clear s0 s1 P5 Q5 B5 D5 L5 P3 Q3 B3 D3 m1 m2 HOx HOy HOd
  generalize W5.alloc (.cells #[.int .i64 V.k, .int .i64 V.n, .string V.s, .slice va V.l.length vc, .int .i64 Y.k, .int .i64 Y.n, .string Y.s, .slice wa Y.l.length wc2, .int .i64 U.k, .int .i64 U.n, .string U.s, .slice ua U.l.length uc] 30) = W6 at *
  generalize W5.heap.size = g at *
  go_wp2_with fail
  go_loopw [50] (fun i wr => ∃ k : Nat, k ≤ 3 ∧ i = .int .i64 k ∧ TlJ w K O V Y U bv bw bt g (.slice va V.l.length vc) (.slice wa Y.l.length wc2) wr) (fun i _ => 3 - (intOf i).toNat)
  case atStart => exact ⟨0, by omega, rfl, J6.out⟩
  case round =>
    obtain ⟨k, hk, rfl, hJ⟩ := hrel
    have J7 := Lib.hid hJ
    clear J6 hJ
    by_cases hlt : k < 3
    · have j1 : (k : Int) < 3 := by omega
      obtain ⟨X, hX⟩ : ∃ X, [V, Y, U][k]? = some X := ⟨_, List.getElem?_eq_getElem (by simpa using hlt)⟩
      have hXf := HF.out X (List.mem_of_getElem? hX)
      obtain ⟨b1, o1, d1, lw1, e1, hb1, ⟨u1, u2, u3, u4⟩, hl1⟩ := J7.out.list.at hX
      simp only [Value.slice.injEq, Option.some.injEq, Addr.mk.injEq] at e1
      obtain ⟨⟨rfl, rfl, -⟩, -, rfl⟩ := e1
      obtain ⟨xa, xc, rfl, -⟩ := hl1.len
      simp only [Nat.zero_add] at u1 u2 u3 u4
      obtain ⟨P, E, hP1, hP2⟩ := enc_two ae X hXf
      obtain ⟨C, G, hC1, hC2⟩ := text_two ae X hXf
      have HN := Lib.hid (And.intro hP1 (And.intro hP2 (And.intro hC1 hC2)))
      have HQ := Lib.hid hXf
      have K7 := Lib.hid (TxJ.mk (J7.out.later (Kit.below_alloc wr (.cells #[.int .i64 X.k, .int .i64 X.n, .string X.s, .slice xa X.l.length xc] 30))) (Bx.new wr X _ hl1))
      clear hX hXf hb1 hl1 hP1 hP2 hC1 hC2 J7
      go_upto_region 7 with fail
      clear u1 u2 u3 u4
      generalize wr.alloc (.cells #[.int .i64 X.k, .int .i64 X.n, .string X.s, .slice xa X.l.length xc] 30) = W7 at *
      generalize wr.heap.size = bx at *
      obtain ⟨q1, q2, q3, q4⟩ := K7.out.x.1
      go_wp2_with fail
      refine (HN.out.1 _ _ (HE.out _ K7.out.j.below) K7.out.x.rep).mono ?_; rintro e W8 ⟨rfl, hB⟩
      have K8 := Lib.hid (K7.out.later hB)
      clear hB K7 q1 q2 q3 q4
      obtain ⟨q1, q2, q3, q4⟩ := K8.out.x.1
      go_wp2_with fail
      refine (HN.out.2.1 _ _ K8.out.x.rep).mono ?_; rintro e W9 ⟨rfl, hB⟩
      have K9 := Lib.hid (K8.out.later hB)
      clear hB K8 q1 q2 q3 q4
      obtain ⟨q1, q2, q3, q4⟩ := K9.out.x.1
      go_wp2_with fail
      refine (HN.out.2.2.1 _ _ (HE.out _ K9.out.j.below) K9.out.x.rep).mono ?_; rintro e W10 ⟨rfl, hB⟩
      have K10 := Lib.hid (K9.out.later hB)
      clear hB K9 q1 q2 q3 q4
      obtain ⟨q1, q2, q3, q4⟩ := K10.out.x.1
      go_wp2_with fail
      refine (HN.out.2.2.2 _ _ K10.out.x.rep).mono ?_; rintro e W11 ⟨rfl, hB⟩
      have K11 := Lib.hid (K10.out.later hB)
      clear hB K10 HN q1 q2 q3 q4
      have HR := Lib.hid (And.intro (fun W (h : Below w.heap.size w W) v (hv : Rep W.heap.size W X v) => right_any ae X HQ.out W.heap.size W v (Nat.le_refl _) (HE.out _ h).env hv) (And.intro (fun W v (hv : Rep W.heap.size W X v) => refRight_any X HQ.out W.heap.size W v (Nat.le_refl _) hv) (And.intro (fun W (h : Below w.heap.size w W) v (hv : Rep W.heap.size W X v) => Refs_any X HQ.out ae W v (HE.out _ h).env hv) (And.intro (fun W v (hv : Rep W.heap.size W X v) => refRefs_any X HQ.out W v hv) (And.intro (fun W (h : Below w.heap.size w W) v (hv : Rep W.heap.size W X v) => Weaks_any X HQ.out ae W v (HE.out _ h).env hv) (fun W v (hv : Rep W.heap.size W X v) => refWeaks_any X HQ.out W v hv))))))
      go_upto_region 11 with fail
      go_cut [141] from 74 to 141 (fun v wx => v = .bool false ∧ TxJ w K O V Y U X bv bw bt g bx (.slice va V.l.length vc) (.slice wa Y.l.length wc2) (.slice xa X.l.length xc) wx)
      case first =>
        have J0 := Lib.hid (K11.out.later (Below.refl _ _).drew)
        have s0 := tellsHeld J0.out
        clear K11
        dsimp only [List.append]
        go_region_held3 (fun W' => W'.cell? ⟨bx, 0, none⟩ = some (.int .i64 X.k) ∧ W'.cell? ⟨bx, 1, none⟩ = some (.int .i64 X.n) ∧ W'.cell? ⟨bx, 2, none⟩ = some (.string X.s) ∧ W'.cell? ⟨bx, 3, none⟩ = some (.slice xa X.l.length xc) ∧ W'.cell? ⟨bv, 0, none⟩ = some (.int .i64 V.k) ∧ W'.cell? ⟨bv, 1, none⟩ = some (.int .i64 V.n) ∧ W'.cell? ⟨bv, 2, none⟩ = some (.string V.s) ∧ W'.cell? ⟨bv, 3, none⟩ = some (.slice va V.l.length vc) ∧ W'.cell? ⟨bw, 0, none⟩ = some (.int .i64 Y.k) ∧ W'.cell? ⟨bw, 1, none⟩ = some (.int .i64 Y.n) ∧ W'.cell? ⟨bw, 2, none⟩ = some (.string Y.s) ∧ W'.cell? ⟨bw, 3, none⟩ = some (.slice wa Y.l.length wc2))
          (first
            | exact s14
            | exact s13
            | exact s12
            | exact s11
            | exact s10
            | exact s9
            | exact s8
            | exact s7
            | exact s6
            | exact s5
            | exact s4
            | exact s3
            | exact s2
            | exact s1
            | exact s0)
          (first
            | (go_at_call 21; refine (refSame_any X V _ _ _ _ (Nat.le_refl _) J13.out.x.rep J13.out.j.v.rep).mono ?_; rintro e WW14 ⟨rfl, hB⟩; have J14 := Lib.hid (J13.out.later hB); have s14 := tellsHeld J14.out; clear hB)
            | (go_at_call 20; refine (same_any X V _ _ _ _ (Nat.le_refl _) J12.out.x.rep J12.out.j.v.rep).mono ?_; rintro e WW13 ⟨rfl, hB⟩; have J13 := Lib.hid (J12.out.later hB); have s13 := tellsHeld J13.out; clear hB)
            | (go_at_call 19; refine (ref_all Y X _ _ _ _ (Nat.le_refl _) J11.out.j.y.rep J11.out.x.rep).mono ?_; rintro e WW12 ⟨rfl, hB⟩; have J12 := Lib.hid (J11.out.later hB); have s12 := tellsHeld J12.out; clear hB)
            | (go_at_call 18; refine (compare_any Y X _ _ _ _ (Nat.le_refl _) J10.out.j.y.rep J10.out.x.rep).mono ?_; rintro e WW11 ⟨rfl, hB⟩; have J11 := Lib.hid (J10.out.later hB); have s11 := tellsHeld J11.out; clear hB)
            | (go_at_call 19; refine (ref_all X Y _ _ _ _ (Nat.le_refl _) J9.out.x.rep J9.out.j.y.rep).mono ?_; rintro e WW10 ⟨rfl, hB⟩; have J10 := Lib.hid (J9.out.later hB); have s10 := tellsHeld J10.out; clear hB)
            | (go_at_call 18; refine (compare_any X Y _ _ _ _ (Nat.le_refl _) J8.out.x.rep J8.out.j.y.rep).mono ?_; rintro e WW9 ⟨rfl, hB⟩; have J9 := Lib.hid (J8.out.later hB); have s9 := tellsHeld J9.out; clear hB)
            | (go_at_call 13; refine (nums_same _ _ _ _ (N6.out.later N7.out.2) N7.out.1).mono ?_; rintro e WW8 ⟨rfl, hB⟩; have J8 := Lib.hid (J7.out.later hB); have s8 := tellsHeld J8.out; clear hB)
            | (go_at_call 17; refine (HR.out.2.2.2.2.2 _ _ J6.out.x.rep).mono ?_; rintro e WW7 ⟨⟨nv7, rfl, hnv⟩, hB⟩; have J7 := Lib.hid (J6.out.later hB); have s7 := tellsHeld J7.out; have N7 := Lib.hid (And.intro hnv hB); clear hB hnv)
            | (go_at_call 16; refine (HR.out.2.2.2.2.1 _ J5.out.j.below _ J5.out.x.rep).mono ?_; rintro e WW6 ⟨⟨nv6, rfl, hnv⟩, hB⟩; have J6 := Lib.hid (J5.out.later hB); have s6 := tellsHeld J6.out; have N6 := Lib.hid hnv; clear hB hnv)
            | (go_at_call 13; refine (nums_same _ _ _ _ (N3.out.later N4.out.2) N4.out.1).mono ?_; rintro e WW5 ⟨rfl, hB⟩; have J5 := Lib.hid (J4.out.later hB); have s5 := tellsHeld J5.out; clear hB)
            | (go_at_call 15; refine (HR.out.2.2.2.1 _ _ J3.out.x.rep).mono ?_; rintro e WW4 ⟨⟨nv4, rfl, hnv⟩, hB⟩; have J4 := Lib.hid (J3.out.later hB); have s4 := tellsHeld J4.out; have N4 := Lib.hid (And.intro hnv hB); clear hB hnv)
            | (go_at_call 14; refine (HR.out.2.2.1 _ J2.out.j.below _ J2.out.x.rep).mono ?_; rintro e WW3 ⟨⟨nv3, rfl, hnv⟩, hB⟩; have J3 := Lib.hid (J2.out.later hB); have s3 := tellsHeld J3.out; have N3 := Lib.hid hnv; clear hB hnv)
            | (go_at_call 12; refine (HR.out.2.1 _ _ J1.out.x.rep).mono ?_; rintro e WW2 ⟨rfl, hB⟩; have J2 := Lib.hid (J1.out.later hB); have s2 := tellsHeld J2.out; clear hB)
            | (go_at_call 11; refine (HR.out.1 _ J0.out.j.below _ J0.out.x.rep).mono ?_; rintro e WW1 ⟨rfl, hB⟩; have J1 := Lib.hid (J0.out.later hB); have s1 := tellsHeld J1.out; clear hB))
        go_wp2
        all_goals go_meet
        all_goals exact ⟨rfl, J14.out⟩
      case rest =>
        obtain ⟨rfl, hJ⟩ := hcut
        have K12 := Lib.hid (hJ.later (Below.refl _ _).drew)
        clear hJ
        go_upto_region 13 with fail
        have s0 := And.intro K12.out.j.t0 (And.intro K12.out.j.t1 K12.out.x.1.1)
        go_wp2_with fail
        go_region_held3 (fun W' => W'.cell? ⟨bt, 0, none⟩ = some (.int .i64 K) ∧ W'.cell? ⟨bt, 1, none⟩ = some (.int .i64 O) ∧ W'.cell? ⟨bx, 0, none⟩ = some (.int .i64 X.k))
          (first
            | exact s0
            | exact s1
            | exact ⟨Kit.cell_kept _ s1.1, Kit.cell_kept _ s1.2.1, Kit.cell_kept _ s1.2.2⟩)
          (first
            | (go_at_call 22; refine (HT.out _).mono ?_; rintro e W13 ⟨rfl, hB⟩; have K13 := Lib.hid (K12.out.later hB); have s1 := And.intro K13.out.j.t0 (And.intro K13.out.j.t1 K13.out.x.1.1); clear hB))
        have Z0 : Hid (TzJ w K O (typeK a) (typeO a b) V Y U X bv bw bt g bx W13.heap.size (.slice va V.l.length vc) (.slice wa Y.l.length wc2) (.slice xa X.l.length xc) (W13.alloc (.cells #[.int .i64 K, .int .i64 O, .int .i64 (typeK a), .int .i64 (typeO a b), .int .i64 X.k, .int .i64 0] 26))) := Lib.hid ⟨K13.out.later (Kit.below_alloc W13 _), types_new W13 K O (typeK a) (typeO a b) X.k⟩
        clear K12 K13 s0 s1
        generalize W13.alloc (.cells #[.int .i64 K, .int .i64 O, .int .i64 (typeK a), .int .i64 (typeO a b), .int .i64 X.k, .int .i64 0] 26) = W14 at *
        generalize W13.heap.size = gt at *
        generalize typeK a = T1 at *
        generalize typeO a b = T2 at *
        go_wp2_with fail
        go_loopw [151] (fun i wr => ∃ j : Nat, j ≤ 3 ∧ i = .int .i64 j ∧ TzJ w K O T1 T2 V Y U X bv bw bt g bx gt (.slice va V.l.length vc) (.slice wa Y.l.length wc2) (.slice xa X.l.length xc) wr) (fun i _ => 3 - (intOf i).toNat)
        case atStart => exact ⟨0, by omega, rfl, Z0.out⟩
        case round =>
          obtain ⟨j, hj, rfl, hJ⟩ := hrel
          have Z1 := Lib.hid hJ
          clear Z0 hJ
          by_cases hjl : j < 3
          · have j2 : (j : Int) < 3 := by omega
            obtain ⟨z, hz⟩ : ∃ z, [(K, O), (T1, T2), (X.k, 0)][j]? = some z := ⟨_, List.getElem?_eq_getElem (by simpa using hjl)⟩
            obtain ⟨u1, u2⟩ := Z1.out.ts j z hz
            have Z2 : Hid (TeJ w K O T1 T2 V Y U X z bv bw bt g bx gt wr.heap.size (.slice va V.l.length vc) (.slice wa Y.l.length wc2) (.slice xa X.l.length xc) (wr.alloc (.cells #[.int .i64 z.1, .int .i64 z.2] 26))) := Lib.hid ⟨Z1.out.later (Kit.below_alloc wr _), Kit.cell_new wr #[.int .i64 z.1, .int .i64 z.2] 26 0 rfl, Kit.cell_new wr #[.int .i64 z.1, .int .i64 z.2] 26 1 rfl⟩
            clear hz Z1
            go_upto_region 16 with fail
            clear u1 u2
            generalize wr.alloc (.cells #[.int .i64 z.1, .int .i64 z.2] 26) = W15 at *
            generalize wr.heap.size = bz at *
            have F0 := Lib.hid (Z2.out.later (Below.refl _ _).drew)
            have s0 := typeHeld F0.out
            clear Z2
            go_wp2_with fail
            go_region_held3 (fun W' => W'.cell? ⟨bx, 0, none⟩ = some (.int .i64 X.k) ∧ W'.cell? ⟨bx, 1, none⟩ = some (.int .i64 X.n) ∧ W'.cell? ⟨bx, 2, none⟩ = some (.string X.s) ∧ W'.cell? ⟨bx, 3, none⟩ = some (.slice xa X.l.length xc) ∧ W'.cell? ⟨bz, 0, none⟩ = some (.int .i64 z.1) ∧ W'.cell? ⟨bz, 1, none⟩ = some (.int .i64 z.2))
              (first
                | exact s5
                | exact s4
                | exact s3
                | exact s2
                | exact s1
                | exact s0)
              (first
                | (go_at_call 21; refine (zero_same z.1 z.2 _).mono ?_; rintro e WW5 ⟨rfl, hB⟩; have F5 := Lib.hid (F4.out.later hB); have s5 := typeHeld F5.out; clear hB)
                | (go_at_call 26; refine (refZero_any z.1 z.2 _).mono ?_; rintro e WW4 ⟨rfl, hB⟩; have F4 := Lib.hid (F3.out.later hB); have s4 := typeHeld F4.out; clear hB)
                | (go_at_call 25; refine (zero_any z.1 z.2 _).mono ?_; rintro e WW3 ⟨rfl, hB⟩; have F3 := Lib.hid (F2.out.later hB); have s3 := typeHeld F3.out; clear hB)
                | (go_at_call 24; refine (refFits_any X HQ.out z.1 z.2 _ _ _ (Nat.le_refl _) F1.out.h.k.x.rep).mono ?_; rintro e WW2 ⟨rfl, hB⟩; have F2 := Lib.hid (F1.out.later hB); have s2 := typeHeld F2.out; clear hB)
                | (go_at_call 23; refine (fits_any ae X HQ.out z.1 z.2 _ _ _ (Nat.le_refl _) (HE.out _ F0.out.h.k.j.below).env F0.out.h.k.x.rep).mono ?_; rintro e WW1 ⟨rfl, hB⟩; have F1 := Lib.hid (F0.out.later hB); have s1 := typeHeld F1.out; clear hB))
            go_wp2
            go_roundw
            case rel => exact ⟨j + 1, by omega, by go_num, F5.out.h⟩
            case measure => simp [intOf]; omega
          · obtain rfl : j = 3 := by omega
            go_wp2
            go_roundw
            case rel => exact ⟨k + 1, by omega, by go_num, Z1.out.k.j⟩
            case measure => simp [intOf]; omega
    · obtain rfl : k = 3 := by omega
      go_wp2
      go_ret
      exact ⟨rfl, J7.out.below⟩
end Go.Proofs.YtbmhlpojgiminaaGreatDoor.Val
