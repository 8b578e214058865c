/- Layer 1: the walks of ReadNum, part, sized, Text and ReadText. -/
import Derived.Test.YtbmhlpojgiminaaGreatDoorKit2
import Derived.Test.YtbmhlpojgiminaaGreatDoorWireNumber
import Derived.Test.YtbmhlpojgiminaaGreatDoorWireNum2
import Derived.Test.YtbmhlpojgiminaaGreatDoorErrIs
import Derived.Test.YtbmhlpojgiminaaGreatDoorShelf
import Derived.WalkLawsBesides
import Derived.WalkSmall
namespace Go.Proofs.YtbmhlpojgiminaaGreatDoor.Wire
open Go.RowKit Go.Shelf
open Kit (ret_int)

/-- errWire's value. -/
abbrev evOf (ae : Addr) : Value := .iface 179 (.pointer (some ae))

theorem number_any (br off : Nat) (s : ByteArray) (hs : s.size ≤ 140737488351232) (a : Int) (h1 : -9223372036854775808 ≤ a) (h2 : a ≤ 9223372036854775807) (ae : Addr) (w : World)
    (h0 : 2 < w.heap.size) (hE : w.cell? ⟨2, 0, none⟩ = some (evOf ae)) (hbr : br < w.heap.size)
    (hr0 : w.cell? ⟨br, off, none⟩ = some (.string s)) (hr1 : w.cell? ⟨br, off + 1, none⟩ = some (.int .i64 a)) (hf1 : w.frozen? ⟨br, off + 1, none⟩ = false) :
    Calls Tryz.prog 106 #[.pointer (some ⟨br, off, none⟩)] w (NumberPost br off s a (evOf ae) w) :=
  (callsIn_wide (n := 3)).1 (number_in 3 (by decide) br off s hs a h1 h2 _ ae (Lib.hid rfl) w h0 hE hbr hr0 hr1 hf1)

theorem num_any (n : Int) (h1 : -9223372036854775808 ≤ n) (h2 : n ≤ 9223372036854775807) (w : World) :
    Calls Tryz.prog 59 #[.int .i64 n] w fun e w' => e = .returned (.string ⟨(numB n).toArray⟩) ∧ Below w.heap.size w w' :=
  (callsIn_wide (n := 3)).1 (num_in 3 (by decide) n h1 h2 w)

/-- What ReadNum answers. -/
def readNumV (s : ByteArray) (a : Int) : Value :=
  match readN (bytesAt s a) with
  | none => .tuple #[.int .i64 0, .int .i64 0, .int .i64 10]
  | some r => .tuple #[.int .i64 r.1, .int .i64 (a + (r.2 : Int)), .int .i64 0]

set_option maxRecDepth 100000 in
set_option maxHeartbeats 1000000 in
theorem readNum_any (s : ByteArray) (hs : s.size ≤ 140737488351232) (a : Int) (h1 : -9223372036854775808 ≤ a) (h2 : a ≤ 9223372036854775807) (ae : Addr) (w : World)
    (h0 : 2 < w.heap.size) (hE : w.cell? ⟨2, 0, none⟩ = some (evOf ae)) :
    Calls Tryz.prog 87 #[.string s, .int .i64 a] w fun e w' => e = .returned (readNumV s a) ∧ Below w.heap.size w w' := by
  have hc1 := number_any w.heap.size 0 s hs a h1 h2 ae (w.alloc (.cells #[.string s, .int .i64 a] 125)) (by rw [World.size_alloc]; omega)
    (((Below.refl _ w).alloc (Nat.le_refl _) _).cell (p := ⟨2, 0, none⟩) h0 |>.trans hE) (by simp) (Kit.cell_new _ _ _ 0 rfl) (Kit.cell_new _ _ _ 1 rfl) (Kit.frozen_new _ _ _ _)
  have hB1 : Below w.heap.size w (w.alloc (.cells #[.string s, .int .i64 a] 125)) := (Below.refl _ w).alloc (Nat.le_refl _) _
  have hsz1 : w.heap.size < (w.alloc (.cells #[.string s, .int .i64 a] 125)).heap.size := by simp
  have HC := Lib.hid hc1; clear hc1
  cases hrd : readN (bytesAt s a) with
  | none =>
    have hv : readNumV s a = .tuple #[.int .i64 0, .int .i64 0, .int .i64 10] := by unfold readNumV; rw [hrd]
    rw [hv]
    clear hv
    have HR := Lib.hid hrd; clear hrd
    go_enter Tryz.func87, Tryz.ntmps87
    go_wp2_with fail
    refine HC.out.mono ?_
    intro e w1 hp
    unfold NumberPost at hp
    rw [HR.out] at hp
    obtain ⟨rfl, hB2⟩ := hp
    have hB := hB1.trans (hB2.mono (Nat.le_of_lt hsz1))
    have cE : w1.cell? ⟨2, 0, none⟩ = some (evOf ae) := (hB.cell (p := ⟨2, 0, none⟩) h0).trans hE
    clear hE
    go_wp2_with (go_at_call 107; refine (ErrIs.is_same ae _).mono ?_; rintro e w' ⟨rfl, rfl⟩)
    go_ret3
    exact ⟨rfl, hB⟩
  | some r =>
    obtain ⟨n, z⟩ := r
    have hv : readNumV s a = .tuple #[.int .i64 n, .int .i64 (a + (z : Int)), .int .i64 0] := by unfold readNumV; rw [hrd]
    rw [hv]
    clear hv
    have HR := Lib.hid hrd; clear hrd
    go_enter Tryz.func87, Tryz.ntmps87
    go_wp2_with fail
    refine HC.out.mono ?_
    intro e w1 hp
    unfold NumberPost at hp
    rw [HR.out] at hp
    obtain ⟨rfl, hg, hs0, ha0, hf0⟩ := hp
    have hB := hB1.trans (Kit.below_of_grownBy hg (Nat.le_refl _) hsz1)
    have cE : w1.cell? ⟨2, 0, none⟩ = some (evOf ae) := (hB.cell (p := ⟨2, 0, none⟩) h0).trans hE
    clear hE
    have ha1 : w1.cell? ⟨w.heap.size, 1, none⟩ = some (.int .i64 (a + (z : Int))) := ha0
    go_wp2_with (go_at_call 107; refine (ErrIs.is_nil ae _).mono ?_; rintro e w' ⟨rfl, rfl⟩)
    go_quiet (fail)
    go_wp2
    go_ret3
    exact ⟨rfl, Kit.bdN hB _⟩

theorem clone_any (s : ByteArray) (hs : s.size ≤ 140737488351232) (w : World) :
    Calls Tryz.prog 133 #[.string s] w fun e w' => e = .returned (.string s) ∧ Below w.heap.size w w' := by
  go_enter Tryz.func133, Tryz.ntmps133
  go_wp2_with (go_at_call 142; refine (Tryz.stringslite_Clone s _ (by omega)).mono ?_; rintro e w' ⟨rfl, hB⟩)
  go_ret
  exact ⟨rfl, hB⟩

set_option maxRecDepth 100000 in
set_option maxHeartbeats 1000000 in
theorem part_bad (s : ByteArray) (_hs : s.size ≤ 140737488351232) (a n : Int) (h1 : -9223372036854775808 ≤ a) (h2 : a ≤ 9223372036854775807) (h3 : -9223372036854775808 ≤ n) (h4 : n ≤ 9223372036854775807) (hbad : ¬ (0 ≤ a ∧ a ≤ s.size ∧ 0 ≤ n ∧ n ≤ (s.size : Int) - a)) (ae : Addr) (w : World)
    (hE : w.cell? ⟨2, 0, none⟩ = some (evOf ae)) :
    Calls Tryz.prog 122 #[.string s, .int .i64 a, .int .i64 n] w fun e w' => e = .returned (.tuple #[.string ⟨#[]⟩, evOf ae]) ∧ Below w.heap.size w w' := by
  by_cases k1 : a < 0
  · go_enter Tryz.func122, Tryz.ntmps122
    go_wp2
    go_quiet (fail)
    go_wp2
    go_ret2
    exact ⟨rfl, Kit.bdN (Below.refl _ _) _⟩
  · by_cases k2 : (s.size : Int) < a
    · go_enter Tryz.func122, Tryz.ntmps122
      go_wp2
      go_quiet (fail)
      go_wp2
      go_ret2
      exact ⟨rfl, Kit.bdN (Below.refl _ _) _⟩
    · by_cases k3 : n < 0
      · go_enter Tryz.func122, Tryz.ntmps122
        go_wp2
        go_quiet (fail)
        go_wp2
        go_ret2
        exact ⟨rfl, Kit.bdN (Below.refl _ _) _⟩
      · have k4 : (s.size : Int) - a < n := by
          apply Decidable.byContradiction; intro h; exact hbad ⟨by omega, by omega, by omega, by omega⟩
        clear hbad
        go_enter Tryz.func122, Tryz.ntmps122
        go_wp2
        go_quiet (fail)
        go_wp2
        go_ret2
        exact ⟨rfl, Kit.bdN (Below.refl _ _) _⟩

set_option maxRecDepth 100000 in
set_option maxHeartbeats 1000000 in
theorem part_good (s : ByteArray) (hs : s.size ≤ 140737488351232) (a n : Nat) (h : a + n ≤ s.size) (w : World) :
    Calls Tryz.prog 122 #[.string s, .int .i64 (a : Int), .int .i64 (n : Int)] w fun e w' => e = .returned (.tuple #[.string (s.extract a (a + n)), .nilIface]) ∧ Below w.heap.size w w' := by
  have k1 : ¬ ((a : Int) < 0) := by omega
  have k2 : ¬ ((s.size : Int) < a) := by omega
  have k3 : ¬ ((n : Int) < 0) := by omega
  have k4 : ¬ ((s.size : Int) - a < n) := by omega
  have hsz : (s.extract a (a + n)).size ≤ 140737488351232 := by simp [ByteArray.size_extract]; omega
  have hsl : ∀ W, (Instr.slice 123 (.string s) (some (.int .i64 (a : Int))) (some (.int .i64 ((a : Int) + (n : Int)))) none).run Tryz.prog W = .ok (.string (s.extract a (a + n))) W := fun W => by
    have e := run_slice_string (P := Tryz.prog) (w := W) 123 s .i64 .i64 (a : Int) ((a : Int) + (n : Int)) Tryz.underlying123 (by omega) (by omega) (by omega)
    rw [show ((a : Int) + (n : Int)).toNat = a + n from by omega, Int.toNat_natCast] at e
    exact e
  go_enter Tryz.func122, Tryz.ntmps122
  go_wp2_with (go_at_call 133; refine (clone_any _ hsz _).mono ?_; rintro e w' ⟨rfl, hB⟩)
  go_ret2
  exact ⟨rfl, hB⟩
end Go.Proofs.YtbmhlpojgiminaaGreatDoor.Wire
