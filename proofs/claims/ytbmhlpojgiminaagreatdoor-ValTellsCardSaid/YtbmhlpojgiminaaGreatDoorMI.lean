/- What every row of layer 3's great door wants that writes texts: what is laid. -/
import Derived.Test.YtbmhlpojgiminaaGreatDoorValRow
import Derived.Test.YtbmhlpojgiminaaGreatDoorMA
import Derived.Lib.LaidTab
namespace Go.Proofs.YtbmhlpojgiminaaGreatDoor.RowKit
open Go.ChangeShapes Go.WideShapes Go.ChangeAt Go.RowKit Go.Deep Go.Joins
open Val

/-- What is listed. -/
abbrev laidLT : List (String × DataW Unit) := [("math/bits.deBruijn32tab", Rows.laid_math_bits_deBruijn32tab), ("math/bits.deBruijn64tab", Rows.laid_math_bits_deBruijn64tab), ("internal/strconv.uint64pow10", Rows.laid_internal_strconv_uint64pow10), ("unicode/utf8.acceptRanges", Rows.laid_unicode_utf8_acceptRanges), ("moraine/wire.errWire", Rows.laid_moraine_wire_errWire), ("unicode/utf8.first", Rows.laid_unicode_utf8_first)]
theorem pow_eq : (Rows.laid_internal_strconv_uint64pow10 : DataW Unit) = Lib.tabData .u64 Lib.pow10Tab := by kernel_rfl

/-- What the row's list gives a walk. -/
theorem envT_of_laid {W : World} (h : laidMetH Tryz.prog laidLT W) (hs : W.ShapedOpen Tryz.prog) : ∃ ae, Val.EnvT ae W := by
  rw [MakeChecks.laidMetH_plain _ _ _ (by kernel_rfl)] at h
  have h1 := Lib.laidMet.reads h (n := "unicode/utf8.acceptRanges") (d := Lib.acceptData) (accept_eq ▸ .tail _ (.tail _ (.tail _ (.head _))))
  have h2 := Lib.laidMet.reads h (n := "unicode/utf8.first") (d := Lib.firstData) (first_eq ▸ .tail _ (.tail _ (.tail _ (.tail _ (.tail _ (.head _))))))
  have hT := utf8Tabs_of_readsT (U8Types.of196 Tryz.lays196) ⟨by kernel_rfl, by kernel_rfl, by kernel_rfl, by kernel_rfl, by kernel_rfl, by kernel_rfl, by kernel_rfl⟩ h2 h1
  have h3 := laidMet.tail (laidMet.tail h)
  have hp : Lib.TabIs Tryz.prog W "internal/strconv.uint64pow10" .u64 Lib.pow10Tab :=
    Lib.tabIs_of_head (g := 3) (t := 171) (e := 135) (n := 20) (by kernel_rfl) (by kernel_rfl) Tryz.underlying171 Tryz.underlying135 (by kernel_rfl) (by kernel_rfl) (pow_eq ▸ h3)
  obtain ⟨a, s, hv, _, _, _⟩ := laid_sentinel (laidMet.tail (laidMet.tail h3)) gErr gErrType Tryz.underlying109 rowPtr Tryz.underlying179 Tryz.underlying201 rfl rfl Tryz.underlying9 cellsS cellsStr
  have hc : W.cell? ⟨2, 0, none⟩ = some (.iface 179 (.pointer (some a))) := by simpa using World.var?_cell gErr hv 0
  exact ⟨a, ⟨Kit.lt_of_cell hc, hc, hT⟩, Lib.tabBelow_of_tabIs hp, Tryz.laysM155.s1_3 W hs⟩

/-- A world that meets the list. -/
noncomputable def laidWorldT (os : Os) : World := World.laidAll Tryz.prog os laidLT
theorem laid_metT (os : Os) (args : Array Value) : laidMetH Tryz.prog laidLT ((laidWorldT os).forCall (fun _ _ => 0) ⟨#[], args, []⟩).memory := by
  rw [MakeChecks.laidMetH_plain _ _ _ (by kernel_rfl)]
  exact laidMet_laidAll _ (by kernel_rfl) (by kernel_rfl)
end Go.Proofs.YtbmhlpojgiminaaGreatDoor.RowKit
/- What a row of layer 3's great door wants besides that takes a type. -/
namespace Go.Proofs.YtbmhlpojgiminaaGreatDoor.RowKit
open Go.ChangeShapes Go.WideShapes Go.ChangeAt Go.RowKit Go.Deep Go.Joins

theorem cellsType : Tryz.prog.cellsOf 26 = 2 := by kernel_rfl
section
variable {H : Type} {enc : TypeId × Value → H} {W : World} {v : Value} {d : DataW H} {p : List MemPlace} {base : Nat}

set_option maxRecDepth 100000 in
/-- A type. -/
theorem typ (hv : Value.okWide Tryz.prog W .any base 26 v) (h : DataW.Trod enc Tryz.prog W 0 (fun _ => true) true 26 v d p) : ∃ k o : Int, v = .agg #[.int .i64 k, .int .i64 o] := by
  obtain ⟨v0, v1, y0, y1, n, rfl, rfl, rfl, h0, h1⟩ := open_agg2 Tryz.underlying26 (by kernel_rfl) cellsType hv h
  obtain ⟨k, e0, _, w0⟩ := DataW.trod_int Tryz.underlying3 h0
  obtain ⟨a, e1, _, w1⟩ := DataW.trod_int Tryz.underlying3 h1
  simp only [List.cons.injEq, and_true] at e0 e1
  subst e0 e1
  exact ⟨k, a, rfl⟩
end
end Go.Proofs.YtbmhlpojgiminaaGreatDoor.RowKit
