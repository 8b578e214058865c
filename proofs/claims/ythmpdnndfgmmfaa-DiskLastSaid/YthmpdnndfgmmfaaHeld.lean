/- Layer 2: disks that lie in memory beside each other; the calls' contracts over all of them. -/
import Derived.Test.YthmpdnndfgmmfaaDiskWrite
namespace Go.Proofs.Ythmpdnndfgmmfaa.Disk
open Go.RowKit

/-- Disks that lie in memory: each apart from each, and from the blocks that meet A. -/
structure Held (w : World) (A : Nat → Prop) (L : List (Nat × Dk)) : Prop where
  old : ∀ k, A k → k < w.heap.size
  on : ∃ Fs : Nat → Foot, (∀ i x, L[i]? = some x → (Fs i).p = x.1 ∧ On w (Fs i) x.2 ∧ ∀ k, (Fs i).has k → ¬ A k) ∧
    ∀ i j, i ≠ j → i < L.length → j < L.length → ∀ k, (Fs i).has k → ¬ (Fs j).has k

/-- What is behind a call: the disks, and nothing that meets A has turned. -/
def Then (w w' : World) (A : Nat → Prop) (L : List (Nat × Dk)) : Prop := Held w' A L ∧ Moved (fun k => ¬ A k) w w'

theorem Held.grow {w w' : World} {A : Nat → Prop} {L : List (Nat × Dk)} (h : Held w A L) (hb : Below w.heap.size w w') : Then w w' A L := by
  obtain ⟨Fs, h1, h2⟩ := h.on
  refine ⟨⟨fun k hk => Nat.lt_of_lt_of_le (h.old k hk) hb.size, Fs, fun i x hx => ?_, h2⟩, (Moved.of_below hb).mono fun k hk e => by omega⟩
  obtain ⟨e1, e2, e3⟩ := h1 i x hx
  exact ⟨e1, e2.keep fun k hk => hb.block k (e2.lt k hk), e3⟩
theorem Held.mono {w : World} {A B : Nat → Prop} {L : List (Nat × Dk)} (h : Held w A L) (hB : ∀ k, B k → A k) : Held w B L := by
  obtain ⟨Fs, h1, h2⟩ := h.on
  refine ⟨fun k hk => h.old k (hB k hk), Fs, fun i x hx => ?_, h2⟩
  obtain ⟨e1, e2, e3⟩ := h1 i x hx
  exact ⟨e1, e2, fun k hk hb => e3 k hk (hB k hb)⟩
/-- New blocks that are none of the disks' are kept from now on, too. -/
theorem Held.widen {w w' : World} {A : Nat → Prop} {L : List (Nat × Dk)} (h : Held w A L) (hb : Below w.heap.size w w') : Held w' (fun k => A k ∨ (w.heap.size ≤ k ∧ k < w'.heap.size)) L := by
  obtain ⟨Fs, h1, h2⟩ := h.on
  refine ⟨fun k hk => ?_, Fs, fun i x hx => ?_, h2⟩
  · rcases hk with hk | hk
    · exact Nat.lt_of_lt_of_le (h.old k hk) hb.size
    · exact hk.2
  · obtain ⟨e1, e2, e3⟩ := h1 i x hx
    refine ⟨e1, e2.keep fun k hk => hb.block k (e2.lt k hk), fun k hk ha => ?_⟩
    rcases ha with ha | ha
    · exact e3 k hk ha
    · have := e2.lt k hk; omega
theorem Held.nil (w : World) (A : Nat → Prop) (hA : ∀ k, A k → k < w.heap.size) : Held w A [] :=
  ⟨hA, fun _ => ⟨0, 0, .nilIface⟩, fun i x hx => by simp at hx, fun i j _ hi => by simp at hi⟩

/-- One of them has been called. -/
theorem Held.call {P : Program} {f : FuncId} {args : Array Value} {w : World} {A : Nat → Prop} {L : List (Nat × Dk)} (h : Held w A L) {i : Nat} {p : Nat} {D D' : Dk} (hi : L[i]? = some (p, D)) {e0 : Ending}
    (hc : ∀ F : Foot, F.p = p → On w F D → (∀ k, F.has k → ¬ A k) → Calls P f args w fun e w' => e = e0 ∧ After F w D' w') : Calls P f args w fun e w' => e = e0 ∧ Then w w' A (L.set i (p, D')) := by
  obtain ⟨Fs, h1, h2⟩ := h.on
  obtain ⟨e1, e2, e3⟩ := h1 i _ hi
  refine (hc (Fs i) e1 e2 e3).mono ?_
  rintro e w' ⟨rfl, hA⟩
  refine ⟨rfl, ?_⟩
  obtain ⟨pv', o1, o2, o3⟩ := hA
  have hl : i < L.length := (List.getElem?_eq_some_iff.1 hi).1
  have hnew : ∀ k, ({ Fs i with pv := pv' } : Foot).has k → (Fs i).has k ∨ w.heap.size ≤ k := by
    rintro k (rfl | rfl | e)
    · exact .inl (.inl rfl)
    · exact .inl (.inr (.inl rfl))
    · rcases o2 k e with h | h
      · exact .inl (.inr (.inr h))
      · exact .inr h
  refine ⟨⟨fun k hk => Nat.lt_of_lt_of_le (h.old k hk) o3.size, fun j => if j = i then { Fs i with pv := pv' } else Fs j, fun j x hx => ?_, fun a b hab ha hb k hk hk2 => ?_⟩, o3.mono fun k _ hk => e3 k hk⟩
  · by_cases e : j = i
    · subst e
      rw [List.getElem?_set_self hl] at hx
      cases hx
      simp only [if_true]
      refine ⟨e1, o1, fun k hk ha => ?_⟩
      rcases hnew k hk with hk | hk
      · exact e3 k hk ha
      · have := h.old k ha; omega
    · rw [List.getElem?_set_ne (fun q => e q.symm)] at hx
      obtain ⟨f1, f2, f3⟩ := h1 j x hx
      simp only [if_neg e]
      exact ⟨f1, f2.moved o3 fun k hk hk2 => h2 j i e (List.getElem?_eq_some_iff.1 hx).1 hl k hk hk2, f3⟩
  · rw [List.length_set] at ha hb
    have key : ∀ c, c ≠ i → c < L.length → ∀ k, (Fs c).has k → ¬ ({ Fs i with pv := pv' } : Foot).has k := fun c hc hcl k h3 h4 => by
      rcases hnew k h4 with h5 | h5
      · exact h2 c i hc hcl hl k h3 h5
      · have := (h1 c _ (List.getElem?_eq_getElem hcl)).2.1.lt k h3; omega
    by_cases ea : a = i
    · subst ea
      have eb : b ≠ a := fun q => hab q.symm
      simp only [if_true] at hk
      simp only [if_neg eb] at hk2
      exact key b eb hb k hk2 hk
    · by_cases eb : b = i
      · subst eb
        simp only [if_neg ea] at hk
        simp only [if_true] at hk2
        exact key a ea ha k hk hk2
      · simp only [if_neg ea] at hk
        simp only [if_neg eb] at hk2
        exact h2 a b hab ha hb k hk hk2

/-- A new one. -/
theorem Held.add {w w' : World} {A : Nat → Prop} {L : List (Nat × Dk)} (h : Held w A L) {F : Foot} {D : Dk} (hb : Below w.heap.size w w') (hO : On w' F D) (hF : ∀ k, F.has k → w.heap.size ≤ k) : Then w w' A (L ++ [(F.p, D)]) := by
  obtain ⟨Gs', g1', g2'⟩ := h.on
  have lt' : ∀ i, i < L.length → ∀ k, (Gs' i).has k → k < w.heap.size := fun i hi k hk => (g1' i _ (List.getElem?_eq_getElem hi)).2.1.lt k hk
  refine ⟨⟨fun k hk => Nat.lt_of_lt_of_le (h.old k hk) hb.size, fun j => if j = L.length then F else Gs' j, fun j x hx => ?_, fun a b hab ha hb2 k hk hk2 => ?_⟩, (Moved.of_below hb).mono fun k hk e => by omega⟩
  · by_cases e : j = L.length
    · subst e
      simp at hx
      subst hx
      simp only [if_true]
      exact ⟨trivial, hO, fun k hk ha => by have := hF k hk; have := h.old k ha; omega⟩
    · have hj : j < L.length := by
        have := (List.getElem?_eq_some_iff.1 hx).1
        simp at this; omega
      rw [List.getElem?_append_left hj] at hx
      obtain ⟨e1, e2, e3⟩ := g1' j x hx
      simp only [if_neg e]
      exact ⟨e1, e2.keep fun k hk => hb.block k (e2.lt k hk), e3⟩
  · simp at ha hb2
    by_cases ea : a = L.length
    · subst ea
      have eb : b ≠ L.length := fun q => hab q.symm
      simp only [if_true] at hk
      simp only [if_neg eb] at hk2
      have := hF k hk; have := lt' b (by omega) k hk2; omega
    · by_cases eb : b = L.length
      · subst eb
        simp only [if_neg ea] at hk
        simp only [if_true] at hk2
        have := hF k hk2; have := lt' a (by omega) k hk; omega
      · simp only [if_neg ea] at hk
        simp only [if_neg eb] at hk2
        exact g2' a b hab (by omega) (by omega) k hk hk2

theorem Held.lies {w : World} {A : Nat → Prop} {L : List (Nat × Dk)} (h : Held w A L) {i : Nat} {p : Nat} {D : Dk} (hi : L[i]? = some (p, D)) : ∃ F : Foot, F.p = p ∧ On w F D ∧ ∀ k, F.has k → ¬ A k := by
  obtain ⟨Fs, h1, _⟩ := h.on
  exact ⟨Fs i, h1 i _ hi⟩
theorem Held.ok {w : World} {A : Nat → Prop} {L : List (Nat × Dk)} (h : Held w A L) {i : Nat} {p : Nat} {D : Dk} (hi : L[i]? = some (p, D)) : D.Ok := by
  obtain ⟨F, _, hO, _⟩ := h.lies hi
  exact hO.ok
end Go.Proofs.Ythmpdnndfgmmfaa.Disk
