/- A row's list of numbers, for layer 4's laws. -/
import Derived.Test.YtafnmbbjnafmlaaDoorClassRow
import Derived.Test.YtafnmbbjnafmlaaDoorLaw4Vals
namespace Go.Proofs.YtafnmbbjnafmlaaDoor.RowKit
open Go.ChangeShapes Go.WideShapes Go.ChangeAt Go.RowKit Go.Deep Go.Joins
open Cls

section
variable {H : Type} {enc : TypeId × Value → H} {W : World} {v : Value} {d : DataW H} {p : List MemPlace} {base : Nat}
set_option maxRecDepth 100000 in
theorem ints4 (hv : Value.okWide Tryd.prog W .any base 28 v) (h : DataW.Trod enc Tryd.prog W 0 (fun _ => true) true 28 v d p) :
    ∃ l : List Int, IntsL W l v ∧ ∀ y ∈ l, -9223372036854775808 ≤ y ∧ y ≤ 9223372036854775807 := by
  obtain ⟨a0, len0, cap0, rfl⟩ := okWide_slice Tryd.underlying28 hv
  obtain ⟨fuel, hf⟩ := h
  rcases open_ints Tryd.underlying28 Tryd.underlying3 cellsInt hf with ⟨hcs, _⟩ | ⟨a, len', cap', zs, hcs, _, hl, hm, hz, _, hcell, hwz⟩
  · simp only [Value.cells, List.cons.injEq, and_true, Value.slice.injEq] at hcs
    obtain ⟨rfl, rfl, rfl⟩ := hcs
    exact ⟨[], .inl ⟨rfl, _, _, rfl⟩, by simp⟩
  · simp only [Value.cells, List.cons.injEq, and_true, Value.slice.injEq] at hcs
    obtain ⟨rfl, rfl, rfl⟩ := hcs
    have hlz : len0 ≤ zs.length := by simp only [if_true] at hz; omega
    by_cases hl0 : len0 = 0
    · subst hl0
      exact ⟨[], .inl ⟨rfl, _, _, rfl⟩, by simp⟩
    · have h0 := hcell 0 (by omega)
      have hsp := spot_none (add_zero a ▸ h0)
      obtain ⟨b, o, s⟩ := a
      simp only at hsp
      subst hsp
      have hlt := Kit.lt_of_cell h0
      have hlen : (zs.take len0).length = len0 := by rw [List.length_take, Nat.min_eq_left hlz]
      refine ⟨zs.take len0, .inr ⟨b, o, cap0, by rw [hlen], by rw [hlen]; omega, hlt, fun i x hx => ?_⟩, fun x hx => bounds_i64 (hwz x (List.mem_of_mem_take hx))⟩
      have hi : i < len0 := by have := (List.getElem?_eq_some_iff.1 hx).1; omega
      have h1 := hcell i (by omega)
      rw [Addr.add_mid] at h1
      rw [h1]
      rw [List.getElem?_take_of_lt hi] at hx
      rw [List.getD_eq_getElem?_getD, hx]; rfl
end
end Go.Proofs.YtafnmbbjnafmlaaDoor.RowKit
