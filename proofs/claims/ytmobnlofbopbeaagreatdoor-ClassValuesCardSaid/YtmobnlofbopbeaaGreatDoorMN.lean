/- A row's list of numbers, for layer 4's laws. -/
import Derived.Test.YtmobnlofbopbeaaGreatDoorClassRow
import Derived.Test.YtmobnlofbopbeaaGreatDoorMJ
import Derived.Test.YtmobnlofbopbeaaGreatDoorMA
import Derived.Lib.LaidTab
namespace Go.Proofs.YtmobnlofbopbeaaGreatDoor.RowKit
open Go.ChangeShapes Go.WideShapes Go.ChangeAt Go.RowKit Go.Deep Go.Joins
open Cls

section
variable {H : Type} {enc : TypeId × Value → H} {W : World} {v : Value} {d : DataW H} {p : List MemPlace} {base : Nat}
set_option maxRecDepth 100000 in
theorem ints4 (hv : Value.okWide Tryz.prog W .any base 38 v) (h : DataW.Trod enc Tryz.prog W 0 (fun _ => true) true 38 v d p) :
    ∃ l : List Int, IntsL W l v ∧ ∀ y ∈ l, -9223372036854775808 ≤ y ∧ y ≤ 9223372036854775807 := by
  obtain ⟨a0, len0, cap0, rfl⟩ := okWide_slice Tryz.underlying38 hv
  obtain ⟨fuel, hf⟩ := h
  rcases open_ints Tryz.underlying38 Tryz.underlying3 cellsInt hf with ⟨hcs, _⟩ | ⟨a, len', cap', zs, hcs, _, hl, hm, hz, _, hcell, hwz⟩
  · simp only [Value.cells, List.cons.injEq, and_true, Value.slice.injEq] at hcs
    obtain ⟨rfl, rfl, rfl⟩ := hcs
    exact ⟨[], .inl ⟨rfl, _, _, rfl⟩, by simp⟩
  · simp only [Value.cells, List.cons.injEq, and_true, Value.slice.injEq] at hcs
    obtain ⟨rfl, rfl, rfl⟩ := hcs
    have hlz : len0 ≤ zs.length := by simp only [if_true] at hz; omega
    by_cases hl0 : len0 = 0
    · subst hl0
      exact ⟨[], .inl ⟨rfl, _, _, rfl⟩, by simp⟩
    · have h0 := hcell 0 (by omega)
      have hsp := spot_none (add_zero a ▸ h0)
      obtain ⟨b, o, s⟩ := a
      simp only at hsp
      subst hsp
      have hlt := Kit.lt_of_cell h0
      have hlen : (zs.take len0).length = len0 := by rw [List.length_take, Nat.min_eq_left hlz]
      refine ⟨zs.take len0, .inr ⟨b, o, cap0, by rw [hlen], by rw [hlen]; omega, hlt, fun i x hx => ?_⟩, fun x hx => bounds_i64 (hwz x (List.mem_of_mem_take hx))⟩
      have hi : i < len0 := by have := (List.getElem?_eq_some_iff.1 hx).1; omega
      have h1 := hcell i (by omega)
      rw [Addr.add_mid] at h1
      rw [h1]
      rw [List.getElem?_take_of_lt hi] at hx
      rw [List.getD_eq_getElem?_getD, hx]; rfl
end
end Go.Proofs.YtmobnlofbopbeaaGreatDoor.RowKit
/- What every row of layer 4 at the great door wants that writes texts: what is laid. -/
namespace Go.Proofs.YtmobnlofbopbeaaGreatDoor.RowKit
open Go.ChangeShapes Go.WideShapes Go.ChangeAt Go.RowKit Go.Deep Go.Joins
open Val

/-- What is listed. -/
abbrev laidLT : List (String × DataW Unit) := [("math/bits.deBruijn32tab", Rows.laid_math_bits_deBruijn32tab), ("math/bits.deBruijn64tab", Rows.laid_math_bits_deBruijn64tab), ("internal/strconv.uint64pow10", Rows.laid_internal_strconv_uint64pow10), ("unicode/utf8.acceptRanges", Rows.laid_unicode_utf8_acceptRanges), ("moraine/wire.errWire", Rows.laid_moraine_wire_errWire), ("unicode/utf8.first", Rows.laid_unicode_utf8_first)]
theorem pow_eq : (Rows.laid_internal_strconv_uint64pow10 : DataW Unit) = Lib.tabData .u64 Lib.pow10Tab := by kernel_rfl

/-- What the row's list gives a walk. -/
theorem envT_of_laid {W : World} (h : laidMetH Tryz.prog laidLT W) (hs : W.ShapedOpen Tryz.prog) : ∃ ae, Val.EnvT ae W := by
  rw [MakeChecks.laidMetH_plain _ _ _ (by kernel_rfl)] at h
  have h1 := Lib.laidMet.reads h (n := "unicode/utf8.acceptRanges") (d := Lib.acceptData) (accept_eq ▸ .tail _ (.tail _ (.tail _ (.head _))))
  have h2 := Lib.laidMet.reads h (n := "unicode/utf8.first") (d := Lib.firstData) (first_eq ▸ .tail _ (.tail _ (.tail _ (.tail _ (.tail _ (.head _))))))
  have hT := utf8Tabs_of_readsT (U8Types.of196 Tryz.lays196) ⟨by kernel_rfl, by kernel_rfl, by kernel_rfl, by kernel_rfl, by kernel_rfl, by kernel_rfl, by kernel_rfl⟩ h2 h1
  have h3 := laidMet.tail (laidMet.tail h)
  have hp : Lib.TabIs Tryz.prog W "internal/strconv.uint64pow10" .u64 Lib.pow10Tab :=
    Lib.tabIs_of_head (g := 3) (t := 206) (e := 170) (n := 20) (by kernel_rfl) (by kernel_rfl) Tryz.underlying206 Tryz.underlying170 (by kernel_rfl) (by kernel_rfl) (pow_eq ▸ h3)
  obtain ⟨a, s, hv, _, _, _⟩ := laid_sentinel (laidMet.tail (laidMet.tail h3)) gErr gErrType Tryz.underlying143 rowPtr Tryz.underlying214 Tryz.underlying236 rfl rfl Tryz.underlying9 cellsS cellsStr
  have hc : W.cell? ⟨2, 0, none⟩ = some (.iface 214 (.pointer (some a))) := by simpa using World.var?_cell gErr hv 0
  exact ⟨a, ⟨Kit.lt_of_cell hc, hc, hT⟩, Lib.tabBelow_of_tabIs hp, Tryz.laysM155.s1_3 W hs⟩

/-- A world that meets the list. -/
noncomputable def laidWorldT (os : Os) : World := World.laidAll Tryz.prog os laidLT
theorem laid_metT (os : Os) (args : Array Value) : laidMetH Tryz.prog laidLT ((laidWorldT os).forCall (fun _ _ => 0) ⟨#[], args, []⟩).memory := by
  rw [MakeChecks.laidMetH_plain _ _ _ (by kernel_rfl)]
  exact laidMet_laidAll _ (by kernel_rfl) (by kernel_rfl)
end Go.Proofs.YtmobnlofbopbeaaGreatDoor.RowKit
