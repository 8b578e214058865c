/- Small lemmas over any program, for the walks of all layers. -/
import Derived.WalkKit
import Derived.RangeFuncBox
import Derived.Laws.BytesArg
import Derived.Laws.BytesString
import Derived.Laws.OwnMore
import Derived.Laws.IdiomStrings
import Derived.Maps.AppendAt
namespace Go.Proofs.YtbmhlpojgiminaaGreatDoor.Kit
open Go.RowKit

theorem ret_int {k : IntKind} {a b : Int} (h : a = b) : Ending.returned (.int k a) = .returned (.int k b) := by rw [h]

/-- string(b) of a slice of bytes that the call owns. -/
theorem conv_own {P : Program} {W : World} {base e k : Nat} {v : Value} {l : List Int} (h : W.ownsRow base e 1 v k (l.map (Value.int .u8))) (hl : l.length = k) {src dst : TypeId}
    (hs : P.underlying src = some (.slice e)) (he : P.underlying e = some (.int .u8)) (hd : P.underlying dst = some .string) :
    (convert src dst v).run P W = .ok (.string (strOfNums l)) W := by
  rcases h.2 with ⟨rfl, h0⟩ | ⟨g, cap, cur, rfl, _⟩
  · obtain rfl : l = [] := by
      rw [← List.length_eq_zero_iff]; omega
    exact run_convert_bytes_nil W src e hs he 0 0 dst hd
  · refine run_convert_bytes_arg W src e hs he g 0 k cap l hl (fun i hi => ?_) dst hd
    have := h.cellAt i (by omega)
    rw [Nat.zero_add, this]
    simp [List.getD, List.getElem?_eq_getElem (show i < l.length by omega)]
/-- Below n₀ nothing has turned, if one block beyond it alone has. -/
theorem below_of_grownBy {n₀ B : Nat} {w w' : World} (h : w.grownBy w' (some B)) (hn : n₀ ≤ B) (hB : B < w.heap.size) : Below n₀ w w' :=
  ⟨h.os, h.tape, h.output, h.size, fun k hk => h.block k (by omega) (by intro e; cases e; omega)⟩

theorem grownBy_setCellAt (W : World) (a : Addr) (v : Value) : W.grownBy (W.setCell a v) (some a.block) :=
  ⟨rfl, rfl, rfl, (KeepsWalks.setCell W a v).size, fun k _ hk => Below.heap_setCell _ _ _ k (fun e => hk (by rw [e]))⟩
theorem grownBy_of_below {w w' : World} (h : Below w.heap.size w w') (row : Option Nat) : w.grownBy w' row :=
  ⟨h.os, h.tape, h.output, h.size, fun k hk _ => h.block k hk⟩
/-- Blocks that are boxes lie on, whatever turns that is no cells. -/
theorem boxed_turn {A W : World} {row : Option Nat} {b : Nat} {t : TypeId} {v : Value} (h : Boxed A b t v) (hg : A.grownBy W row) (hr : ∀ r, row = some r → ∃ o : Obj, A.heap[r]? = some o ∧ o.isCells = false) : Boxed W b t v := by
  refine h.kept hg (fun e => ?_)
  obtain ⟨o, ho, hc⟩ := hr b e.symm
  rw [show A.heap[b]? = _ from h] at ho; cases ho; cases hc
theorem below_turn {n₀ B : Nat} {w A W : World} {row : Option Nat} (h : Below n₀ w A) (hw : n₀ ≤ w.heap.size) (hB : n₀ ≤ B) (hg : A.grownBy W row) (hr : ∀ r, row = some r → B ≤ r) : Below n₀ w W :=
  h.trans ⟨hg.os, hg.tape, hg.output, hg.size, fun k hk => hg.block k (by have := h.size; omega) (fun e => by have := hr k e.symm; omega)⟩

theorem cell_new (w : World) (cs : Array Value) (T : TypeId) (i : Nat) {v : Value} (h : cs[i]? = some v) : (w.alloc (.cells cs T)).cell? ⟨w.heap.size, i, none⟩ = some v := by
  have h2 := World.alloc_heap_new w (.cells cs T)
  unfold World.cell?
  simp only [h2]
  simpa using h
theorem frozen_new (w : World) (cs : Array Value) (T : TypeId) (i : Nat) : (w.alloc (.cells cs T)).frozen? ⟨w.heap.size, i, none⟩ = false := by
  have h2 := World.alloc_heap_new w (.cells cs T)
  unfold World.frozen?
  simp only [h2]
  simp

/-- What '[]byte(s)' gives, its cells under a name. -/
theorem conv_bytes {P : Program} (W : World) (src dst e : TypeId) (s : ByteArray) (hs : P.underlying src = some .string) (hd : P.underlying dst = some (.slice e)) (he : P.underlying e = some (.int .u8)) :
    ∃ (C : Array Value) (cap : Nat), (∀ j (hj : j < s.size), C[j]? = some (.int .u8 ((s[j]'hj).toNat : Int))) ∧
      (convert src dst (.string s)).run P W = .ok (.slice (some ⟨W.heap.size, 0, none⟩) s.size cap) (W.drew.alloc (.cells C e (C.size, C.size + 1))) :=
  ⟨bytesRow s (grownCap W s.size 0 e), grownCap W s.size 0 e, fun j hj => bytesRow_at s _ j hj, run_bytes_of_string W src dst e s hs hd he⟩
end Go.Proofs.YtbmhlpojgiminaaGreatDoor.Kit
