/- More small lemmas over any program. -/
import Derived.Test.YtbmhlpojgiminaaGreatDoorKit
import Derived.WalkSmall
import Derived.Laws.Strings
import Derived.WideShapes
namespace Go.Proofs.YtbmhlpojgiminaaGreatDoor.Kit
open Go.RowKit
theorem grownBy_drewN (W : World) (n : Nat) (row : Option Nat) : W.grownBy (W.drewN n) row := ⟨rfl, rfl, rfl, Nat.le_refl _, fun _ _ _ => rfl⟩

theorem bdN {B : Nat} {a w : World} (h : Below B a w) (n : Nat) : Below B a (w.drewN n) := h.trans ⟨rfl, rfl, rfl, Nat.le_refl _, fun _ _ => rfl⟩
theorem grownBy_undrew {W W' : World} {row : Option Nat} (h : W.drew.grownBy W' row) : W.grownBy W' row := ⟨h.os, h.tape, h.output, h.size, h.block⟩
theorem frozen_of_grownBy {W W' : World} {row : Option Nat} (h : W.grownBy W' row) {a : Addr} (hl : a.block < W.heap.size) (hne : some a.block ≠ row) : W'.frozen? a = W.frozen? a := World.frozen?_of_block (h.block _ hl hne)
theorem lt_of_cell {W : World} {a : Addr} {v : Value} (h : W.cell? a = some v) : a.block < W.heap.size := by
  unfold World.cell? at h
  rcases hb : W.heap[a.block]? with _ | o
  · rw [hb] at h; cases h
  · exact (Array.getElem?_eq_some_iff.1 hb).1
theorem ret_bool {a b : Bool} (h : a = b) : Ending.returned (.bool a) = .returned (.bool b) := by rw [h]
theorem bytes_inj {a b : ByteArray} (h : a.toList = b.toList) : a = b := by
  rw [ByteArray.toList_eq, ByteArray.toList_eq] at h
  exact Go.WideShapes.bytes_inj h
end Go.Proofs.YtbmhlpojgiminaaGreatDoor.Kit
