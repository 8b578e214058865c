/- What every row of this seat wants: errWire's cell out of the row's list; a world that meets the list; the program's own looks. -/
import Derived.Test.YtjmbkgcicdaomaaDoorCards
import Derived.Test.YtjmbkgcicdaomaaDoorTie
import Derived.Test.YtjmbkgcicdaomaaDoorWireShown
import Derived.WalkKit
import Derived.ProofKit
import Derived.OpenShut
import Derived.RowKitTokens
import Derived.SizedLaws
import Derived.Carry
import Derived.ChangeSlices
import Derived.Stop.LaidErr
import Derived.Deep.DeepHandedRow
import Derived.Deep.DeepWitnessRowRef
namespace Go.Proofs.YtjmbkgcicdaomaaDoor.RowKit
open Go.ChangeShapes Go.WideShapes Go.ChangeAt Go.RowKit

theorem own : ownKnob Tryd.prog.godebug = none := by kernel_rfl
theorem gErr : Tryd.prog.globalNamed "moraine/wire.errWire" = some 0 := by kernel_rfl
theorem gErrType : (Tryd.prog.globals[0]?).map (·.type) = some 46 := by kernel_rfl
theorem cellsS : Tryd.prog.cellsOf 105 = 1 := by kernel_rfl
theorem cellsT : Tryd.prog.cellsOf 9 = 1 := by kernel_rfl
theorem laidOut : laidOutB Tryd.prog = true := by kernel_rfl
theorem cellsInt : Tryd.prog.cellsOf 3 = 1 := by kernel_rfl
theorem bytesInt : Tryd.prog.bytesOf 3 = 8 := by kernel_rfl
theorem lits_len {H : Type} (k : IntKind) (zs : List Int) : (lits (H := H) k zs).length = zs.length := by simp [lits]
theorem lt_of_cell {W : World} {a : Addr} {v : Value} (h : W.cell? a = some v) : a.block < W.heap.size := by
  unfold World.cell? at h
  rcases hb : W.heap[a.block]? with _ | o
  · rw [hb] at h; cases h
  · exact (Array.getElem?_eq_some_iff.1 hb).1
theorem star : "*" ++ "errors.errorString" = "*errors.errorString" := by decide
theorem rowPtr (u : TypeId) (h : Tryd.prog.typeName? 3 u = some "*errors.errorString") : u = 81 :=
  typeName_ptr_named (nm := "errors.errorString") (by rw [star]; kernel_rfl) (by kernel_rfl) (by decide) u (by rw [star]; exact h)

/-- What the row's list gives a walk. -/
theorem env_of_laid {W : World} (h : laidMetH Tryd.prog [("moraine/wire.errWire", Rows.laid_moraine_wire_errWire)] W) : ∃ ae, Wire.Env ae W := by
  obtain ⟨a, s, hv, _, _, _⟩ := laid_sentinel (r := []) h gErr gErrType Tryd.underlying46 rowPtr Tryd.underlying81 Tryd.underlying105 rfl rfl Tryd.underlying9 cellsS cellsT
  have hc : W.cell? ⟨0, 0, none⟩ = some (.iface 81 (.pointer (some a))) := by simpa using World.var?_cell gErr hv 0
  refine ⟨a, ?_, hc⟩
  have hc' := hc
  unfold World.cell? at hc'
  rcases hb : W.heap[0]? with _ | o
  · simp only [hb] at hc'; cases hc'
  · exact (Array.getElem?_eq_some_iff.1 hb).1

noncomputable def low : Nat := (World.holding Tryd.prog default ⟨#[], #[], []⟩).heap.size
/-- The text of errWire. -/
abbrev errText : ByteArray := { data := #[119, 105, 114, 101, 58, 32, 110, 111, 32, 115, 117, 99, 104, 32, 98, 121, 116, 101, 115] }
/-- A world that meets the list. -/
noncomputable def laidWorld (os : Os) : World :=
  let w0 := World.holding Tryd.prog os ⟨#[.cells #[.string errText] 105], #[], []⟩
  { w0 with heap := w0.heap.modify 0 fun
      | .cells _ t frozen => .cells #[.iface 81 (.pointer (some ⟨low, 0, none⟩))] t frozen
      | o => o }
theorem laid_met (os : Os) (args : Array Value) : laidMetH Tryd.prog [("moraine/wire.errWire", Rows.laid_moraine_wire_errWire)] ((laidWorld os).forCall (fun _ _ => 0) ⟨#[], args, []⟩).memory :=
  laidMet_of_run (ps := [.cell 0 0, .cell low 0]) 8 (by kernel_rfl) (by kernel_rfl) (by kernel_rfl)
end Go.Proofs.YtjmbkgcicdaomaaDoor.RowKit
