/- Layer 3: values, as they lie in memory. -/
import Derived.Test.YtbmhlpojgiminaaGreatDoorKit6
import Derived.Test.YtbmhlpojgiminaaGreatDoorKit5
import Derived.Test.YtbmhlpojgiminaaGreatDoorKit2
import Derived.Deep.MidRow
import Derived.Below
import Derived.Sort.Walk0
namespace Go.Proofs.YtbmhlpojgiminaaGreatDoor.Val
open Go.RowKit

/-- A value. -/
inductive Vl where
  | mk (k n : Int) (s : ByteArray) (l : List Vl)
def Vl.k : Vl → Int | .mk k _ _ _ => k
def Vl.n : Vl → Int | .mk _ n _ _ => n
def Vl.s : Vl → ByteArray | .mk _ _ s _ => s
def Vl.l : Vl → List Vl | .mk _ _ _ l => l

/-- A value's four cells. -/
abbrev aggV (k n : Int) (s : ByteArray) (lv : Value) : Value := .agg #[.int .i64 k, .int .i64 n, .string s, lv]
abbrev cellsV (k n : Int) (s : ByteArray) (lv : Value) : List Value := [.int .i64 k, .int .i64 n, .string s, lv]

mutual
/-- v is the value x; its lists lie below block B. -/
def Rep (B : Nat) (w : World) : Vl → Value → Prop
  | .mk k n s l, v => ∃ lv, v = aggV k n s lv ∧ ((l = [] ∧ lv = .slice none 0 0) ∨ ∃ b o c, b < B ∧ l ≠ [] ∧ lv = .slice (some ⟨b, o, none⟩) l.length c ∧ l.length ≤ c ∧ c ≤ maxLen ∧ RepC B w b o l)
/-- The cells of l lie in block b from o on. -/
def RepC (B : Nat) (w : World) (b : Nat) : Nat → List Vl → Prop
  | _, [] => True
  | o, x :: r => (∃ v, Rep B w x v ∧ w.rangeAt b o v.cells.toList) ∧ RepC B w b (o + 4) r
end
/-- lv is the list l. -/
def RepL (B : Nat) (w : World) (l : List Vl) (lv : Value) : Prop :=
  (l = [] ∧ lv = .slice none 0 0) ∨ ∃ b o c, b < B ∧ l ≠ [] ∧ lv = .slice (some ⟨b, o, none⟩) l.length c ∧ l.length ≤ c ∧ c ≤ maxLen ∧ RepC B w b o l

theorem rep_mk {B : Nat} {w : World} {k n : Int} {s : ByteArray} {l : List Vl} {v : Value} : Rep B w (.mk k n s l) v ↔ ∃ lv, v = aggV k n s lv ∧ RepL B w l lv := by
  rw [Rep]; rfl
theorem rep_of {B : Nat} {w : World} {x : Vl} {v : Value} (h : Rep B w x v) : ∃ lv, v = aggV x.k x.n x.s lv ∧ RepL B w x.l lv := by
  cases x; exact rep_mk.1 h
theorem rep_in {B : Nat} {w : World} {x : Vl} {lv : Value} (h : RepL B w x.l lv) : Rep B w x (aggV x.k x.n x.s lv) := by
  cases x; exact rep_mk.2 ⟨_, rfl, h⟩
theorem repC_cons {B : Nat} {w : World} {b o : Nat} {x : Vl} {r : List Vl} : RepC B w b o (x :: r) ↔ (∃ v, Rep B w x v ∧ w.rangeAt b o v.cells.toList) ∧ RepC B w b (o + 4) r := by
  rw [RepC]
theorem repC_nil {B : Nat} {w : World} {b o : Nat} : RepC B w b o [] := by rw [RepC]; trivial

theorem rangeAt_heap {w w' : World} {b o : Nat} {cs : List Value} (h : w.rangeAt b o cs) (hb : w'.heap[b]? = w.heap[b]?) : w'.rangeAt b o cs :=
  fun j v hv => (World.cell?_of_block (w := w) (w' := w') (a := ⟨b, o + j, none⟩) hb).trans (h j v hv)

mutual
theorem Rep.moved {B B' : Nat} {w w' : World} (hB : B ≤ B') (hh : ∀ b, b < B → w'.heap[b]? = w.heap[b]?) : ∀ (x : Vl) (v : Value), Rep B w x v → Rep B' w' x v
  | .mk k n s l, v, h => by
    rw [rep_mk] at h ⊢
    obtain ⟨lv, hv, h⟩ := h
    refine ⟨lv, hv, ?_⟩
    rcases h with h | ⟨b, o, c, hb, h0, h1, h2, h4, h3⟩
    · exact .inl h
    · exact .inr ⟨b, o, c, by omega, h0, h1, h2, h4, RepC.moved hB hh hb l o h3⟩
theorem RepC.moved {B B' : Nat} {w w' : World} (hB : B ≤ B') (hh : ∀ b, b < B → w'.heap[b]? = w.heap[b]?) {b : Nat} (hb : b < B) : ∀ (l : List Vl) (o : Nat), RepC B w b o l → RepC B' w' b o l
  | [], _, _ => repC_nil
  | x :: r, o, h => by
    rw [repC_cons] at h ⊢
    obtain ⟨⟨v, h1, h2⟩, h3⟩ := h
    exact ⟨⟨v, Rep.moved hB hh x v h1, rangeAt_heap h2 (hh b hb)⟩, RepC.moved hB hh hb r (o + 4) h3⟩
end
theorem RepL.moved {B B' : Nat} {w w' : World} (hB : B ≤ B') (hh : ∀ b, b < B → w'.heap[b]? = w.heap[b]?) {l : List Vl} {lv : Value} (h : RepL B w l lv) : RepL B' w' l lv := by
  rcases h with h | ⟨b, o, c, hb, h0, h1, h2, h4, h3⟩
  · exact .inl h
  · exact .inr ⟨b, o, c, by omega, h0, h1, h2, h4, RepC.moved hB hh hb l o h3⟩
theorem Rep.below {B n : Nat} {w w' : World} {x : Vl} {v : Value} (h : Rep B w x v) (hb : Below n w w') (hB : B ≤ n) : Rep B w' x v :=
  Rep.moved (Nat.le_refl _) (fun b hb' => hb.block b (by omega)) x v h
theorem RepL.below {B n : Nat} {w w' : World} {l : List Vl} {lv : Value} (h : RepL B w l lv) (hb : Below n w w') (hB : B ≤ n) : RepL B w' l lv :=
  h.moved (Nat.le_refl _) (fun b hb' => hb.block b (by omega))
theorem Rep.mono {B B' : Nat} {w : World} {x : Vl} {v : Value} (h : Rep B w x v) (hB : B ≤ B') : Rep B' w x v := Rep.moved hB (fun _ _ => rfl) x v h
theorem RepL.mono {B B' : Nat} {w : World} {l : List Vl} {lv : Value} (h : RepL B w l lv) (hB : B ≤ B') : RepL B' w l lv := h.moved hB (fun _ _ => rfl)

theorem Rep.drew {B : Nat} {w : World} {x : Vl} {v : Value} (h : Rep B w x v) : Rep B w.drew x v := Rep.moved (w := w) (w' := w.drew) (Nat.le_refl B) (fun _ _ => rfl) x v h
theorem RepL.drew {B : Nat} {w : World} {l : List Vl} {v : Value} (h : RepL B w l v) : RepL B w.drew l v := RepL.moved (w := w) (w' := w.drew) (Nat.le_refl B) (fun _ _ => rfl) h

/-- One of a list's values. -/
theorem RepC.at {B : Nat} {w : World} {b : Nat} : ∀ (l : List Vl) (o i : Nat) (x : Vl), RepC B w b o l → l[i]? = some x → ∃ v, Rep B w x v ∧ w.rangeAt b (o + 4 * i) v.cells.toList
  | [], _, _, _, _, hx => by simp at hx
  | y :: r, o, 0, x, h, hx => by
    rw [repC_cons] at h
    simp only [List.getElem?_cons_zero, Option.some.injEq] at hx
    subst hx
    exact h.1
  | y :: r, o, i + 1, x, h, hx => by
    rw [repC_cons] at h
    simp only [List.getElem?_cons_succ] at hx
    have := RepC.at r (o + 4) i x h.2 hx
    rw [show o + 4 + 4 * i = o + 4 * (i + 1) from by omega] at this
    exact this
theorem four_of {w : World} {b o : Nat} {k n : Int} {s : ByteArray} {lv : Value} (h : w.rangeAt b o (cellsV k n s lv)) :
    w.cell? ⟨b, o, none⟩ = some (.int .i64 k) ∧ w.cell? ⟨b, o + 1, none⟩ = some (.int .i64 n) ∧ w.cell? ⟨b, o + 2, none⟩ = some (.string s) ∧ w.cell? ⟨b, o + 3, none⟩ = some lv :=
  ⟨h 0 _ rfl, h 1 _ rfl, h 2 _ rfl, h 3 _ rfl⟩
theorem RepL.at {B : Nat} {w : World} {l : List Vl} {lv : Value} (h : RepL B w l lv) {i : Nat} {x : Vl} (hx : l[i]? = some x) :
    ∃ b o c lw, lv = .slice (some ⟨b, o, none⟩) l.length c ∧ b < B ∧ (w.cell? ⟨b, o + i * 4, none⟩ = some (.int .i64 x.k) ∧ w.cell? ⟨b, o + i * 4 + 1, none⟩ = some (.int .i64 x.n) ∧ w.cell? ⟨b, o + i * 4 + 2, none⟩ = some (.string x.s) ∧ w.cell? ⟨b, o + i * 4 + 3, none⟩ = some lw) ∧ RepL B w x.l lw := by
  rcases h with ⟨rfl, _⟩ | ⟨b, o, c, hb, h0, h1, h2, _, h3⟩
  · simp at hx
  · obtain ⟨v, hv, hr⟩ := RepC.at l o i x h3 hx
    obtain ⟨lw, rfl, hl⟩ := rep_of hv
    exact ⟨b, o, c, lw, h1, hb, four_of (by rw [Nat.mul_comm]; exact hr), hl⟩
theorem RepL.len {B : Nat} {w : World} {l : List Vl} {lv : Value} (h : RepL B w l lv) : ∃ a c, lv = .slice a l.length c ∧ l.length ≤ maxLen := by
  rcases h with ⟨rfl, h⟩ | ⟨b, o, c, _, _, h1, h2, h3, _⟩
  · exact ⟨none, 0, h, Nat.zero_le _⟩
  · exact ⟨_, c, h1, by omega⟩

/-- A value without a list. -/
abbrev flat (k n : Int) (s : ByteArray) : Vl := .mk k n s []
abbrev flatV (k n : Int) (s : ByteArray) : Value := aggV k n s (.slice none 0 0)
theorem rep_flat {B : Nat} {w : World} {k n : Int} {s : ByteArray} : Rep B w (flat k n s) (flatV k n s) := rep_mk.2 ⟨_, rfl, .inl ⟨rfl, rfl⟩⟩
def Vl.isFlat (x : Vl) : Prop := x.l = []
/-- The cells of values without lists. -/
def cellsF (x : Vl) : List Value := cellsV x.k x.n x.s (.slice none 0 0)
theorem cellsF_len (x : Vl) : (cellsF x).length = 4 := rfl
theorem cellsFs_len : ∀ l : List Vl, (l.flatMap cellsF).length = l.length * 4
  | [] => rfl
  | x :: r => by rw [List.flatMap_cons, List.length_append, cellsFs_len r, cellsF_len, List.length_cons]; omega
theorem cellsF_one (x : Vl) : ∀ u ∈ cellsF x, u.oneCell' = true := by
  intro u hu
  simp only [cellsF, cellsV, List.mem_cons, List.not_mem_nil, or_false] at hu
  rcases hu with rfl | rfl | rfl | rfl <;> rfl
theorem rep_ofFlat {B : Nat} {w : World} {x : Vl} (h : x.isFlat) : Rep B w x (flatV x.k x.n x.s) := by
  cases x; exact rep_mk.2 ⟨_, rfl, .inl ⟨h, rfl⟩⟩
theorem repC_flat {B : Nat} {w : World} {b : Nat} : ∀ (l : List Vl) (o : Nat), (∀ x ∈ l, x.isFlat) → w.rangeAt b o (l.flatMap cellsF) → RepC B w b o l
  | [], _, _, _ => repC_nil
  | x :: r, o, hf, h => by
    rw [repC_cons]
    rw [List.flatMap_cons] at h
    refine ⟨⟨_, rep_ofFlat (hf x (by simp)), ?_⟩, repC_flat r (o + 4) (fun y hy => hf y (by simp [hy])) ?_⟩
    · intro j v hv
      refine h j v ?_
      have hj : j < 4 := (List.getElem?_eq_some_iff.1 hv).1
      rw [List.getElem?_append_left (by rw [cellsF_len]; omega)]
      exact hv
    · intro j v hv
      have := h (4 + j) v (by rw [List.getElem?_append_right (by rw [cellsF_len]; omega), cellsF_len, Nat.add_sub_cancel_left]; exact hv)
      rw [← Nat.add_assoc] at this
      exact this
theorem repC_keep1 {B B' : Nat} {w w' : World} {b : Nat} (hb : w'.heap[b]? = w.heap[b]?) : ∀ (l : List Vl) (o : Nat), (∀ x ∈ l, x.isFlat) → RepC B w b o l → RepC B' w' b o l
  | [], _, _, _ => repC_nil
  | x :: r, o, hf, h => by
    rw [repC_cons] at h ⊢
    obtain ⟨⟨v, h1, h2⟩, h3⟩ := h
    obtain ⟨lv, rfl, hl⟩ := rep_of h1
    have hx : x.l = [] := hf x (by simp)
    rcases hl with ⟨_, rfl⟩ | ⟨_, _, _, _, h0, _⟩
    · exact ⟨⟨_, rep_ofFlat hx, rangeAt_heap h2 hb⟩, repC_keep1 hb r (o + 4) (fun y hy => hf y (by simp [hy])) h3⟩
    · exact absurd hx h0
/-- A list of values without lists lies in one block. -/
theorem RepL.keep1 {B B' : Nat} {w w' : World} {l : List Vl} {lv : Value} (hf : ∀ x ∈ l, x.isFlat) (h : RepL B w l lv) (hk : ∀ j, lv.ownBlock = some j → w'.heap[j]? = w.heap[j]?) (hB : B ≤ B') : RepL B' w' l lv := by
  rcases h with h | ⟨b, o, c, hb, h0, h1, h2, h4, h3⟩
  · exact .inl h
  · exact .inr ⟨b, o, c, by omega, h0, h1, h2, h4, repC_keep1 (hk b (by rw [h1]; rfl)) l o hf h3⟩
theorem RepL.lt {B : Nat} {w : World} {l : List Vl} {lv : Value} (h : RepL B w l lv) : ∀ j, lv.ownBlock = some j → j < B := by
  intro j hj
  rcases h with ⟨_, rfl⟩ | ⟨b, o, c, hb, h0, rfl, _⟩
  · cases hj
  · cases hj; exact hb
/-- A list's block came behind n. -/
def Fresh (n : Nat) (lv : Value) : Prop := ∀ j, lv.ownBlock = some j → n ≤ j
/-- An own row of values without lists is a list. -/
theorem repL_own {w : World} {base e n : Nat} {v : Value} {l : List Vl} (h : w.ownsRow base e 4 v n (l.flatMap cellsF)) (hn : n = l.length) (hf : ∀ x ∈ l, x.isFlat) (hz : n = 0 → v = .slice none 0 0) : RepL w.heap.size w l v := by
  subst hn
  rcases h.2 with ⟨h1, h2⟩ | ⟨g, cap, cur, h1, h2⟩
  · left
    refine ⟨?_, h1⟩
    rw [← List.length_eq_zero_iff]; omega
  · by_cases h0 : l = []
    · left; exact ⟨h0, hz (by rw [h0]; rfl)⟩
    · right
      have hl := h.lt g (by rw [h1]; rfl)
      refine ⟨g, 0, cap, hl.2, h0, h1, h2.2.2.1, h2.2.2.2.1, repC_flat l 0 hf fun j u hu => ?_⟩
      have := h.cells (g := g) (by rw [h1]; rfl) j u hu
      rw [Addr.add_mid] at this
      exact this
end Go.Proofs.YtbmhlpojgiminaaGreatDoor.Val
