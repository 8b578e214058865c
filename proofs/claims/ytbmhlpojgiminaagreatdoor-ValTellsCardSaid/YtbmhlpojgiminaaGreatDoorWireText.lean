/- Layer 1: the walks of Text, sized and ReadText. -/
import Derived.Test.YtbmhlpojgiminaaGreatDoorWireRead
import Derived.Test.YtbmhlpojgiminaaGreatDoorKit2
import Derived.Deep.Cut
import Derived.Deep.CutRange
import Derived.Laws.Concat
namespace Go.Proofs.YtbmhlpojgiminaaGreatDoor.Wire
open Go.RowKit Go.Shelf
open Kit (ret_int)

/-- The bytes of a text. -/
def textB (s : ByteArray) : ByteArray := ⟨(numB (s.size : Int)).toArray⟩ ++ s

set_option maxRecDepth 100000 in
set_option maxHeartbeats 1000000 in
theorem text_any (s : ByteArray) (hs : s.size ≤ 140737488351232) (w : World) :
    Calls Tryz.prog 60 #[.string s] w fun e w' => e = .returned (if s.size ≤ 10000 then .tuple #[.string (textB s), .int .i64 0] else .tuple #[.string ⟨#[]⟩, .int .i64 10]) ∧ Below w.heap.size w w' := by
  by_cases hk : s.size ≤ 10000
  · rw [if_pos hk]
    have k1 : ¬ (10000 : Int) < (s.size : Int) := by omega
    have hl := numB_len (s.size : Int)
    have hadd : ∀ W, (Op.stringOp .add ⟨(numB (s.size : Int)).toArray⟩ s).run Tryz.prog W = .ok (.string (textB s)) W := fun W =>
      run_string_add_sum _ _ _ (by show (numB (s.size : Int)).toArray.size + s.size ≤ 9223372036854775807; rw [List.size_toArray]; omega)
    clear hl
    go_enter Tryz.func60, Tryz.ntmps60
    go_wp2_with (go_at_call 59; refine (num_any _ (by omega) (by omega) _).mono ?_; rintro e w' ⟨rfl, hB⟩)
    go_ret2
    exact ⟨rfl, hB⟩
  · rw [if_neg hk]
    have k1 : (10000 : Int) < (s.size : Int) := by omega
    go_enter Tryz.func60, Tryz.ntmps60
    go_wp2
    go_ret2
    exact ⟨rfl, Below.refl _ _⟩

/-- The text that is read: how its bytes end. -/
def readT (s : ByteArray) (a : Int) : Option (ByteArray × Int) :=
  match readN (bytesAt s a) with
  | none => none
  | some r => if 0 ≤ r.1 ∧ r.1 ≤ 10000 ∧ a + r.2 + r.1 ≤ s.size then some (s.extract (a.toNat + r.2) (a.toNat + r.2 + r.1.toNat), a + r.2 + r.1) else none

def SizedPost (br off : Nat) (s : ByteArray) (a : Int) (ev : Value) (w : World) (e : Ending) (w' : World) : Prop :=
  match readT s a with
  | none => e = .returned (.tuple #[.string ⟨#[]⟩, ev]) ∧ w.grownBy w' (some br)
  | some r => e = .returned (.tuple #[.string r.1, .nilIface]) ∧ w.grownBy w' (some br) ∧ w'.cell? ⟨br, off, none⟩ = some (.string s) ∧ w'.cell? ⟨br, off + 1, none⟩ = some (.int .i64 r.2) ∧ w'.frozen? ⟨br, off + 1, none⟩ = false

set_option maxRecDepth 100000 in
set_option maxHeartbeats 1000000 in
theorem sized_any (br off : Nat) (s : ByteArray) (hs : s.size ≤ 140737488351232) (a : Int) (h1 : -9223372036854775808 ≤ a) (h2 : a ≤ 9223372036854775807) (ae : Addr) (w : World)
    (h0 : 2 < w.heap.size) (hE : w.cell? ⟨2, 0, none⟩ = some (evOf ae)) (hbr : br < w.heap.size) (hne : br ≠ 2)
    (hr0 : w.cell? ⟨br, off, none⟩ = some (.string s)) (hr1 : w.cell? ⟨br, off + 1, none⟩ = some (.int .i64 a)) (hf1 : w.frozen? ⟨br, off + 1, none⟩ = false) :
    Calls Tryz.prog 108 #[.pointer (some ⟨br, off, none⟩)] w (SizedPost br off s a (evOf ae) w) := by
  have HC := Lib.hid (number_any br off s hs a h1 h2 ae w h0 hE hbr hr0 hr1 hf1)
  cases hrd : readN (bytesAt s a) with
  | none =>
    have hv : readT s a = none := by unfold readT; rw [hrd]
    have HV := Lib.hid hv; clear hv
    have HR := Lib.hid hrd; clear hrd
    go_enter Tryz.func108, Tryz.ntmps108
    go_wp2_with fail
    refine HC.out.mono ?_
    intro e w1 hp
    unfold NumberPost at hp
    rw [HR.out] at hp
    obtain ⟨rfl, hB2⟩ := hp
    go_wp2
    go_ret2
    unfold SizedPost
    rw [HV.out]
    exact ⟨rfl, Kit.grownBy_of_below hB2 _⟩
  | some r =>
    obtain ⟨n, z⟩ := r
    have hin := bytesAt_in (s := s) (a := a) (fun h => by rw [h, readN_nil] at hrd; cases hrd)
    have hzl := readN_len hrd
    obtain ⟨hn1, hn2⟩ := readN_range hrd
    obtain ⟨hin1, hin2⟩ := hin
    obtain ⟨A, rfl⟩ := Int.eq_ofNat_of_zero_le hin1
    have hzs : A + z ≤ s.size := by
      have : (bytesAt s (A : Int)).length = s.size - A := by unfold bytesAt; rw [if_pos hin1]; simp
      omega
    by_cases k1 : 10000 < n
    · have hv : readT s A = none := by unfold readT; rw [hrd]; simp only; rw [if_neg (by omega)]
      have HV := Lib.hid hv; clear hv
      have HR := Lib.hid hrd; clear hrd
      go_enter Tryz.func108, Tryz.ntmps108
      go_wp2_with fail
      refine HC.out.mono ?_
      intro e w1 hp
      unfold NumberPost at hp
      rw [HR.out] at hp
      obtain ⟨rfl, hg, hs0, ha0, hf0⟩ := hp
      have cE : w1.cell? ⟨2, 0, none⟩ = some (evOf ae) := hg.cell hE (fun e => hne (Option.some.inj e).symm)
      clear hE hr0 hr1 hf1
      go_wp2
      go_quiet (fail)
      go_wp2
      go_ret2
      unfold SizedPost
      rw [HV.out]
      exact ⟨rfl, hg.andThen (Kit.grownBy_drewN _ _ _) (fun j e => .inr e)⟩
    · by_cases k2 : 0 ≤ n ∧ (A : Int) + z + n ≤ s.size
      · obtain ⟨k3, k4⟩ := k2
        obtain ⟨m, rfl⟩ := Int.eq_ofNat_of_zero_le k3
        have hv : readT s A = some (s.extract (A + z) (A + z + m), (A : Int) + z + m) := by
          unfold readT; rw [hrd]; simp only; rw [if_pos (by omega)]; simp
        have HV := Lib.hid hv; clear hv
        have HR := Lib.hid hrd; clear hrd
        have hpart := part_good s hs (A + z) m (by omega)
        rw [show (((A + z : Nat)) : Int) = (A : Int) + (z : Int) from by omega] at hpart
        have HP := Lib.hid hpart; clear hpart
        go_enter Tryz.func108, Tryz.ntmps108
        go_wp2_with fail
        refine HC.out.mono ?_
        intro e w1 hp
        unfold NumberPost at hp
        rw [HR.out] at hp
        obtain ⟨rfl, hg, hs0, ha0, hf0⟩ := hp
        clear hE hr0 hr1 hf1
        go_upto_region 6 with fail
        go_cut [5, 6] from 18 (fun s5 s6 wc => s5 = .nilIface ∧ s6 = .string (s.extract (A + z) (A + z + m)) ∧ w1.grownBy wc none)
        case first =>
          go_region_with (go_at_call 122; refine (HP.out _).mono ?_; rintro e w2 ⟨rfl, hB2⟩)
          all_goals go_wp2
          all_goals go_meet
          all_goals exact ⟨rfl, rfl, Kit.grownBy_undrew (Kit.grownBy_of_below hB2 none)⟩
        case rest =>
          obtain ⟨rfl, rfl, hg2⟩ := hcut
          have hb1 := Kit.lt_of_cell ha0
          have ca := hg2.cell ha0 (by simp)
          have cs := hg2.cell hs0 (by simp)
          have cf := (Kit.frozen_of_grownBy hg2 hb1 (by simp)).trans hf0
          have hg3 := hg.andThen hg2 (fun j e => by cases e)
          clear ha0 hs0 hf0 hg hg2
          have q1 : (A : Int) + z + m ≤ 140737488351232 := by omega
          go_wp2
          go_ret2
          unfold SizedPost
          rw [HV.out]
          refine ⟨rfl, hg3.andThen (Kit.grownBy_setCellAt _ _ _) (fun j e => .inr e), ?_, World.cell?_setCell_same _ _ _ ca, ?_⟩
          · rw [World.cell?_setCell_other _ _ _ _ (by simp)]; exact cs
          · rw [World.frozen?_setCell]; exact cf
      · have hv : readT s A = none := by
          unfold readT; rw [hrd]; simp only; rw [if_neg (by omega)]
        have HV := Lib.hid hv; clear hv
        have HR := Lib.hid hrd; clear hrd
        have hpart := fun w cE => part_bad s hs ((A : Int) + (z : Int)) n (by omega) (by omega) hn1 hn2 (by omega) ae w cE
        have HP := Lib.hid hpart; clear hpart
        go_enter Tryz.func108, Tryz.ntmps108
        go_wp2_with fail
        refine HC.out.mono ?_
        intro e w1 hp
        unfold NumberPost at hp
        rw [HR.out] at hp
        obtain ⟨rfl, hg, hs0, ha0, hf0⟩ := hp
        have cE : w1.cell? ⟨2, 0, none⟩ = some (evOf ae) := hg.cell hE (fun e => hne (Option.some.inj e).symm)
        clear hE hr0 hr1 hf1
        go_upto_region 6 with fail
        go_cut [5, 6] from 18 (fun s5 s6 wc => s5 = evOf ae ∧ s6 = .string ⟨#[]⟩ ∧ w1.grownBy wc none)
        case first =>
          go_region_with (go_at_call 122; refine (HP.out _ ?_).mono ?_; exact cE; rintro e w2 ⟨rfl, hB2⟩)
          all_goals go_wp2
          all_goals go_meet
          all_goals exact ⟨rfl, rfl, Kit.grownBy_undrew (Kit.grownBy_of_below hB2 none)⟩
        case rest =>
          obtain ⟨rfl, rfl, hg2⟩ := hcut
          have hg3 := hg.andThen hg2 (fun j e => by cases e)
          clear ha0 hs0 hf0 hg hg2
          go_wp2
          go_ret2
          unfold SizedPost
          rw [HV.out]
          exact ⟨rfl, hg3⟩

/-- What ReadText answers. -/
def readTextV (s : ByteArray) (a : Int) : Value :=
  match readT s a with
  | none => .tuple #[.string ⟨#[]⟩, .int .i64 0, .int .i64 10]
  | some r => .tuple #[.string r.1, .int .i64 r.2, .int .i64 0]

set_option maxRecDepth 100000 in
set_option maxHeartbeats 1000000 in
theorem readText_any (s : ByteArray) (hs : s.size ≤ 140737488351232) (a : Int) (h1 : -9223372036854775808 ≤ a) (h2 : a ≤ 9223372036854775807) (ae : Addr) (w : World)
    (h0 : 2 < w.heap.size) (hE : w.cell? ⟨2, 0, none⟩ = some (evOf ae)) :
    Calls Tryz.prog 90 #[.string s, .int .i64 a] w fun e w' => e = .returned (readTextV s a) ∧ Below w.heap.size w w' := by
  have hc1 := sized_any w.heap.size 0 s hs a h1 h2 ae (w.alloc (.cells #[.string s, .int .i64 a] 125)) (by rw [World.size_alloc]; omega)
    (((Below.refl _ w).alloc (Nat.le_refl _) _).cell (p := ⟨2, 0, none⟩) h0 |>.trans hE) (by simp) (by omega) (Kit.cell_new _ _ _ 0 rfl) (Kit.cell_new _ _ _ 1 rfl) (Kit.frozen_new _ _ _ _)
  have hB1 : Below w.heap.size w (w.alloc (.cells #[.string s, .int .i64 a] 125)) := (Below.refl _ w).alloc (Nat.le_refl _) _
  have hsz1 : w.heap.size < (w.alloc (.cells #[.string s, .int .i64 a] 125)).heap.size := by simp
  have HC := Lib.hid hc1; clear hc1
  cases hrd : readT s a with
  | none =>
    have hv : readTextV s a = .tuple #[.string ⟨#[]⟩, .int .i64 0, .int .i64 10] := by unfold readTextV; rw [hrd]
    rw [hv]
    clear hv
    have HR := Lib.hid hrd; clear hrd
    go_enter Tryz.func90, Tryz.ntmps90
    go_wp2_with fail
    refine HC.out.mono ?_
    intro e w1 hp
    unfold SizedPost at hp
    rw [HR.out] at hp
    obtain ⟨rfl, hg⟩ := hp
    have hB := hB1.trans (Kit.below_of_grownBy hg (Nat.le_refl _) hsz1)
    have cE : w1.cell? ⟨2, 0, none⟩ = some (evOf ae) := (hB.cell (p := ⟨2, 0, none⟩) h0).trans hE
    clear hE
    go_wp2_with (go_at_call 107; refine (ErrIs.is_same ae _).mono ?_; rintro e w' ⟨rfl, rfl⟩)
    go_ret3
    exact ⟨rfl, hB⟩
  | some r =>
    obtain ⟨n, z⟩ := r
    have hv : readTextV s a = .tuple #[.string n, .int .i64 z, .int .i64 0] := by unfold readTextV; rw [hrd]
    rw [hv]
    clear hv
    have HR := Lib.hid hrd; clear hrd
    go_enter Tryz.func90, Tryz.ntmps90
    go_wp2_with fail
    refine HC.out.mono ?_
    intro e w1 hp
    unfold SizedPost at hp
    rw [HR.out] at hp
    obtain ⟨rfl, hg, hs0, ha0, hf0⟩ := hp
    have hB := hB1.trans (Kit.below_of_grownBy hg (Nat.le_refl _) hsz1)
    have cE : w1.cell? ⟨2, 0, none⟩ = some (evOf ae) := (hB.cell (p := ⟨2, 0, none⟩) h0).trans hE
    clear hE
    have ha1 : w1.cell? ⟨w.heap.size, 1, none⟩ = some (.int .i64 z) := ha0
    go_wp2_with (go_at_call 107; refine (ErrIs.is_nil ae _).mono ?_; rintro e w' ⟨rfl, rfl⟩)
    go_quiet (fail)
    go_wp2
    go_ret3
    exact ⟨rfl, Kit.bdN hB _⟩
end Go.Proofs.YtbmhlpojgiminaaGreatDoor.Wire
