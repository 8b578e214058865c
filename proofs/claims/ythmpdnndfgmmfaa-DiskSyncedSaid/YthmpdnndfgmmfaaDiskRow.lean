/- What every row of this seat wants: its arguments' readings opened; a world that meets an empty list; the program's own looks. -/
import Derived.Test.YthmpdnndfgmmfaaRows
import Derived.Test.YthmpdnndfgmmfaaLawSt
import Derived.WalkKit
import Derived.ProofKit
import Derived.OpenShut
import Derived.RowKitTokens
import Derived.SizedLaws
import Derived.Carry
import Derived.ChangeSlices
import Derived.Deep.Slices
import Derived.Deep.Strs
import Derived.Stop.LaidErr
import Derived.Deep.DeepHandedRow
import Derived.Deep.DeepWitnessRowRef
namespace Go.Proofs.Ythmpdnndfgmmfaa.RowKit
open Go.ChangeShapes Go.WideShapes Go.ChangeAt Go.RowKit Go.Deep
open Go.ChangeMaps (open_string shut_string)
open Disk

theorem own : ownKnob Try.prog.godebug = none := by kernel_rfl
theorem laidOut : laidOutB Try.prog = true := by kernel_rfl
theorem cellsInt : Try.prog.cellsOf 3 = 1 := by kernel_rfl
theorem cellsU8 : Try.prog.cellsOf 5 = 1 := by kernel_rfl
theorem cellsStr : Try.prog.cellsOf 9 = 1 := by kernel_rfl
theorem cellsCall : Try.prog.cellsOf 35 = 6 := by kernel_rfl
theorem spot_none {W : World} {a : Addr} {v : Value} (h : W.cell? a = some v) : a.spot = none := by
  unfold World.cell? at h
  split at h
  · split at h
    · cases h
    · rename_i hs; simpa using hs
  · cases h
theorem lt_of_cell {W : World} {a : Addr} {v : Value} (h : W.cell? a = some v) : a.block < W.heap.size := Kit.lt_of_cell h
theorem add_zero (a : Addr) : a.add 0 = a := by unfold Addr.add; simp

section
variable {H : Type} {enc : TypeId × Value → H} {W : World} {v : Value} {d : DataW H} {p : List MemPlace}

theorem ints (hv : Value.okWide Try.prog W .any 0 23 v) (h : DataW.Trod enc Try.prog W 0 (fun _ => true) true 23 v d p) :
    ∃ xs, IntsAt W v xs ∧ (∀ x ∈ xs, -9223372036854775808 ≤ x ∧ x ≤ 9223372036854775807) ∧ xs.length ≤ 9223372036854775807 := by
  obtain ⟨a0, len0, cap0, rfl⟩ := okWide_slice Try.underlying23 hv
  obtain ⟨fuel, hf⟩ := h
  rcases open_ints Try.underlying23 Try.underlying3 cellsInt hf with ⟨hcs, _⟩ | ⟨a, len', cap', zs, hcs, _, hl, hm, hz, _, hcell, hwz⟩
  · simp only [Value.cells, List.cons.injEq, and_true, Value.slice.injEq] at hcs
    obtain ⟨rfl, rfl, rfl⟩ := hcs
    exact ⟨[], .inl ⟨_, _, rfl, rfl⟩, by simp, by simp⟩
  · simp only [Value.cells, List.cons.injEq, and_true, Value.slice.injEq] at hcs
    obtain ⟨rfl, rfl, rfl⟩ := hcs
    have hlz : len0 ≤ zs.length := by simp only [if_true] at hz; omega
    have hmx : cap0 ≤ 9223372036854775807 := hm
    by_cases hl0 : len0 = 0
    · subst hl0
      exact ⟨[], .inl ⟨_, _, rfl, rfl⟩, by simp, by simp⟩
    · have h0 := hcell 0 (by omega)
      have hsp := spot_none (add_zero a ▸ h0)
      obtain ⟨b, o, s⟩ := a
      simp only at hsp
      subst hsp
      have hlt := lt_of_cell h0
      refine ⟨zs.take len0, .inr ⟨b, o, cap0, ?_, hlt, ?_, fun j x hx => ?_⟩, fun x hx => bounds_i64 (hwz x (List.mem_of_mem_take hx)), ?_⟩
      · rw [List.length_take, Nat.min_eq_left hlz]
      · rw [List.length_take, Nat.min_eq_left hlz]; exact hl
      · obtain ⟨hj, rfl⟩ := List.getElem?_eq_some_iff.1 hx
        rw [List.length_take] at hj
        have := hcell j (by omega)
        rw [Addr.add_mid] at this
        rw [this, List.getElem_take]
        simp [List.getD, List.getElem?_eq_getElem (show j < zs.length by omega)]
      · rw [List.length_take]; omega

theorem strs (hv : Value.okWide Try.prog W .any 0 41 v) (h : DataW.Trod enc Try.prog W 0 (fun _ => true) true 41 v d p) :
    ∃ ss, StrsAt W v ss ∧ (∀ s ∈ ss, s.size ≤ 9223372036854775807) ∧ ss.length ≤ 9223372036854775807 := by
  obtain ⟨a0, len0, cap0, rfl⟩ := okWide_slice Try.underlying41 hv
  obtain ⟨fuel, hf⟩ := h
  rcases open_strs Try.underlying41 Try.underlying9 cellsStr hf with ⟨hcs, _⟩ | ⟨a, len', cap', m, Sx, hcs, _, hl, hm, hmm, _, hcell⟩
  · simp only [Value.cells, List.cons.injEq, and_true, Value.slice.injEq] at hcs
    obtain ⟨rfl, rfl, rfl⟩ := hcs
    exact ⟨[], .inl ⟨_, _, rfl, rfl⟩, by simp, by simp⟩
  · simp only [Value.cells, List.cons.injEq, and_true, Value.slice.injEq] at hcs
    obtain ⟨rfl, rfl, rfl⟩ := hcs
    have hlz : len0 ≤ m := by simp only [if_true] at hmm; omega
    have hmx : cap0 ≤ 9223372036854775807 := hm
    by_cases hl0 : len0 = 0
    · subst hl0
      exact ⟨[], .inl ⟨_, _, rfl, rfl⟩, by simp, by simp⟩
    · have h0 := (hcell 0 (by omega)).1
      have hsp := spot_none (add_zero a ▸ h0)
      obtain ⟨b, o, s⟩ := a
      simp only at hsp
      subst hsp
      have hlt := lt_of_cell h0
      refine ⟨(List.range len0).map Sx, .inr ⟨b, o, cap0, by simp, hlt, by simpa using hl, fun j x hx => ?_⟩, fun x hx => ?_, by simpa using (by omega)⟩
      · rw [List.getElem?_map] at hx
        obtain ⟨k, hk, rfl⟩ := Option.map_eq_some_iff.1 hx
        obtain ⟨hj, rfl⟩ := List.getElem?_eq_some_iff.1 hk
        simp at hj
        have := (hcell j (by omega)).1
        rw [Addr.add_mid] at this
        simpa using this
      · obtain ⟨k, hk, rfl⟩ := List.mem_map.1 hx
        exact (hcell k (by have := List.mem_range.1 hk; omega)).2

/-- One call's cells. -/
theorem call_cells {cs : List Value} {x : DataW H × List MemPlace} {n : Nat} (h : DataW.trod enc Try.prog W 0 (fun _ => true) true n 35 cs = some x) : ∃ c : CallD, c.Ok ∧ cs = c.cells := by
  obtain ⟨ys, m, rfl, _, hlen, hyl, hf⟩ := DataW.trod_struct Try.underlying35 h
  rw [cellsCall] at hlen
  have hys : ys.length = 6 := hyl
  match cs, hlen with
  | [c0, c1, c2, c3, c4, c5], _ =>
    match ys, hys with
    | [y0, y1, y2, y3, y4, y5], _ =>
      obtain ⟨k, e0, _, _⟩ := DataW.trod_int Try.underlying5 (hf 0 _ rfl)
      obtain ⟨a, e1, _, w1⟩ := DataW.trod_int Try.underlying3 (hf 1 _ rfl)
      obtain ⟨s, e2, _, w2⟩ := DataW.trod_string Try.underlying9 (hf 2 _ rfl)
      obtain ⟨q, e3, _, _⟩ := DataW.trod_int Try.underlying3 (hf 3 _ rfl)
      obtain ⟨r, e4, _, _⟩ := DataW.trod_int Try.underlying3 (hf 4 _ rfl)
      have e5 : ∃ a l c, [c5] = [Value.slice a l c] := by
        rcases open_ints Try.underlying23 Try.underlying3 cellsInt (hf 5 _ rfl) with ⟨h5, _⟩ | ⟨a, l, c, _, h5, _⟩
        · exact ⟨_, _, _, h5⟩
        · exact ⟨_, _, _, h5⟩
      obtain ⟨a5, l5, p5, e5⟩ := e5
      have f0 : c0 = .int .u8 k := by simpa [cellsU8] using e0
      have f1 : c1 = .int .i64 a := by simpa [cellsInt] using e1
      have f2 : c2 = .string s := by simpa [cellsStr] using e2
      have f3 : c3 = .int .i64 q := by simpa [cellsInt] using e3
      have f4 : c4 = .int .i64 r := by simpa [cellsInt] using e4
      have f5 : c5 = .slice a5 l5 p5 := by simpa using e5
      subst f0 f1 f2 f3 f4 f5
      refine ⟨⟨.int .u8 k, a, s, .int .i64 q, .int .i64 r, .slice a5 l5 p5⟩, ⟨(bounds_i64 w1).1, (bounds_i64 w1).2, w2, ?_⟩, rfl⟩
      intro u hu
      simp only [CallD.cells, List.mem_cons, List.not_mem_nil, or_false] at hu
      rcases hu with rfl | rfl | rfl | rfl | rfl | rfl <;> rfl

theorem calls (hv : Value.okWide Try.prog W .any 0 22 v) (h : DataW.Trod enc Try.prog W 0 (fun _ => true) true 22 v d p) :
    ∃ cs, CallsAt W v cs ∧ (∀ c ∈ cs, c.Ok) ∧ cs.length ≤ 9223372036854775807 := by
  obtain ⟨a0, len0, cap0, rfl⟩ := okWide_slice Try.underlying22 hv
  obtain ⟨fuel, hf⟩ := h
  rcases open_slice Try.underlying22 hf with ⟨hcs, _⟩ | ⟨a, len', cap', m, n, D, Pl, hcs, _, hl, hm, hmm, _, hel⟩
  · simp only [Value.cells, List.cons.injEq, and_true, Value.slice.injEq] at hcs
    obtain ⟨rfl, rfl, rfl⟩ := hcs
    exact ⟨[], .inl ⟨_, _, rfl, rfl⟩, by simp, by simp⟩
  · simp only [Value.cells, List.cons.injEq, and_true, Value.slice.injEq] at hcs
    obtain ⟨rfl, rfl, rfl⟩ := hcs
    rw [cellsCall] at hel
    have hlz : len0 ≤ m := by simp only [if_true] at hmm; omega
    have hmx : cap0 ≤ 9223372036854775807 := hm
    have hone : ∀ i : Fin len0, ∃ c : CallD, c.Ok ∧ ∀ j u, c.cells[j]? = some u → W.cell? ((a.add (i.1 * 6)).add j) = some u := fun i => by
      obtain ⟨cs', h1, h2⟩ := hel i.1 (by omega)
      obtain ⟨c, hok, rfl⟩ := call_cells h2
      obtain ⟨_, h3, h4⟩ := World.cells?_some h1
      refine ⟨c, hok, fun j u hj => ?_⟩
      rw [h4 j (by have := (List.getElem?_eq_some_iff.1 hj).1; omega)]; exact hj
    by_cases hl0 : len0 = 0
    · subst hl0
      exact ⟨[], .inl ⟨_, _, rfl, rfl⟩, by simp, by simp⟩
    · obtain ⟨u0, h0⟩ : ∃ u, W.cell? ((a.add (0 * 6)).add 0) = some u := by
        obtain ⟨c, _, h⟩ := hone ⟨0, by omega⟩
        exact ⟨_, h 0 _ rfl⟩
      have hsp := spot_none (add_zero a ▸ add_zero (a.add 0) ▸ h0)
      obtain ⟨b, o, s⟩ := a
      simp only at hsp
      subst hsp
      have hlt : b < W.heap.size := by
        rw [Addr.add_mid, Addr.add_mid] at h0; exact lt_of_cell h0
      refine ⟨List.ofFn fun i => Classical.choose (hone i), .inr ⟨b, o, cap0, by simp, hlt, by simpa using hl, fun i c hi j u hu => ?_⟩, fun c hc => ?_, by simpa using (by omega)⟩
      · rw [List.getElem?_ofFn] at hi
        split at hi
        · rename_i hil
          have hc := Option.some.inj hi
          have := (Classical.choose_spec (hone ⟨i, hil⟩)).2 j u (by rw [hc]; exact hu)
          rw [Addr.add_mid, Addr.add_mid] at this
          exact this
        · cases hi
      · rw [List.mem_ofFn] at hc
        obtain ⟨i, rfl⟩ := hc
        exact (Classical.choose_spec (hone i)).1
end

/-- A world that meets the list. -/
noncomputable def laidWorld (os : Os) : World := World.holding Try.prog os ⟨#[], #[], []⟩
end Go.Proofs.Ythmpdnndfgmmfaa.RowKit
