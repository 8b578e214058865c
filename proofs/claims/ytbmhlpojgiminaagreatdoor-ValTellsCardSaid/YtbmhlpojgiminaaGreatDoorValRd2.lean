/- Layer 3: the reader of bytes: how it is made, its end, and what it asks. -/
import Derived.Test.YtbmhlpojgiminaaGreatDoorValRd
import Derived.Laws.EntriesVeiled
namespace Go.Proofs.YtbmhlpojgiminaaGreatDoor.Val
open Go.RowKit
open Kit (ret_int ret_bool Moved)

/-- A reader over three boxes. -/
abbrev rdV (be s0 ba : Nat) : Value := .agg #[
  .func (.func 85) #[] #[.pointer (some ⟨be, 0, none⟩), .pointer (some ⟨s0, 0, none⟩), .pointer (some ⟨ba, 0, none⟩)],
  .func (.func 88) #[] #[.pointer (some ⟨be, 0, none⟩), .pointer (some ⟨s0, 0, none⟩), .pointer (some ⟨ba, 0, none⟩)],
  .func (.func 91) #[] #[.pointer (some ⟨ba, 0, none⟩), .pointer (some ⟨be, 0, none⟩)]]

theorem rs_new (ae : Addr) (s : ByteArray) (hs : s.size ≤ 140737488351232) (a : Int) (h0 : 0 ≤ a) (h1 : a ≤ s.size) (w : World) (hE : Env ae w) (C : Obj) :
    RS ae w (w.heap.size + 3) w.heap.size (w.heap.size + 1) s (a, 0) ((((w.alloc (.cells #[.string s] 9)).alloc (.cells #[.int .i64 a] 3)).alloc C).alloc (.cells #[.int .i64 0] 33)) := by
  refine ⟨hE, ?_, by omega, by omega, by omega, by omega, by omega, hs, h0, h1, ?_, ?_, ?_⟩
  · exact (((Kit.below_alloc2 w _ _).alloc (by simp; omega) _).alloc (by simp; omega) _)
  · have h := Boxed.new (((w.alloc (.cells #[.string s] 9)).alloc (.cells #[.int .i64 a] 3)).alloc C) 33 (.int .i64 0)
    rw [World.size_alloc, World.size_alloc, World.size_alloc] at h
    exact h
  · exact (((Boxed.new w 9 (.string s)).alloc _).alloc _).alloc _
  · have h := Boxed.new (w.alloc (.cells #[.string s] 9)) 3 (.int .i64 a)
    rw [World.size_alloc] at h
    exact (h.alloc _).alloc _

set_option maxRecDepth 100000 in
set_option maxHeartbeats 1000000 in
theorem newReader_any (ae : Addr) (s : ByteArray) (hs : s.size ≤ 140737488351232) (a : Int) (h0 : 0 ≤ a) (h1 : a ≤ s.size) (w : World) (hE : Env ae w) :
    Calls Tryz.prog 56 #[.string s, .int .i64 a] w fun e w' => e = .returned (rdV (w.heap.size + 3) w.heap.size (w.heap.size + 1)) ∧ RS ae w (w.heap.size + 3) w.heap.size (w.heap.size + 1) s (a, 0) w' := by
  have HE := Lib.hid hE
  clear hE
  go_enter Tryz.func56, Tryz.ntmps56
  go_wp2
  refine bodyPost_ret (v := rdV (w.heap.size + 3) w.heap.size (w.heap.size + 1)) (by simp [results, Tryz.results56, go_sem]) rfl ⟨rfl, ?_⟩
  exact rs_new ae s hs a h0 h1 w HE.out _

theorem end_any (ae : Addr) (w0 : World) (be s0 ba : Nat) (s : ByteArray) (st : Int × Int) (w : World) (h : RS ae w0 be s0 ba s st w) :
    Calls Tryz.prog 91 #[.pointer (some ⟨ba, 0, none⟩), .pointer (some ⟨be, 0, none⟩)] w fun e w' => e = .returned (.tuple #[.int .i64 st.1, .int .i64 st.2]) ∧ Below w.heap.size w w' := by
  obtain ⟨a, er⟩ := st
  have cE := h.boxE.cell
  have cA := h.boxA.cell
  clear h
  go_enter Tryz.func91, Tryz.ntmps91
  go_wp2
  go_quiet (fail)
  go_wp2
  go_ret2
  exact ⟨rfl, Kit.bdN (Below.refl _ _) _⟩

/-- Is a kind one from Nil to last? -/
def upTo (last n : Int) : Bool := decide (0 ≤ n) && decide (n ≤ last)
theorem ask1 (last : Int) (bl : Nat) (w : World) (hb : Boxed w bl 3 (.int .i64 last)) : AskI 92 #[.pointer (some ⟨bl, 0, none⟩)] (upTo last) w := by
  intro n W _ _ hB
  have hc : W.cell? ⟨bl, 0, none⟩ = some (.int .i64 last) := (hB.cell (p := ⟨bl, 0, none⟩) hb.lt).trans hb.cell
  unfold upTo
  clear hb
  by_cases h : 0 ≤ n
  · rw [decide_eq_true h, Bool.true_and]
    go_enter Tryz.func92, Tryz.ntmps92
    go_wp2
    go_ret
    exact ⟨rfl, Below.refl _ _⟩
  · rw [decide_eq_false h, Bool.false_and]
    go_enter Tryz.func92, Tryz.ntmps92
    go_wp2
    go_ret
    exact ⟨rfl, Below.refl _ _⟩
theorem ask2 (k : Int) (bv : Nat) (w : World) (hb : w.cell? ⟨bv, 0, none⟩ = some (.int .i64 k)) : AskI 93 #[.pointer (some ⟨bv, 0, none⟩)] (rightN k) w := by
  intro n W _ _ hB
  have hc : W.cell? ⟨bv, 0, none⟩ = some (.int .i64 k) := (hB.cell (p := ⟨bv, 0, none⟩) (Kit.lt_of_cell hb)).trans hb
  clear hb
  go_enter Tryz.func93, Tryz.ntmps93
  go_wp2_with (go_at_call 39; refine (rightNumber_any _ _ _).mono ?_; rintro e w' ⟨rfl, rfl⟩)
  go_ret
  exact ⟨rfl, Below.refl _ _⟩
theorem ask3 (w : World) : AskI 36 #[] rightC w := fun n W _ _ _ => (rightCount_any n W).mono fun _ _ ⟨he, hw⟩ => ⟨he, hw ▸ Below.refl _ _⟩
end Go.Proofs.YtbmhlpojgiminaaGreatDoor.Val
