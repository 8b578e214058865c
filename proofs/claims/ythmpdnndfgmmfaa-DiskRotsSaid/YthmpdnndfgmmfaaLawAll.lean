/- Layer 2's laws: all. -/
import Derived.Test.YthmpdnndfgmmfaaLawKeep
import Derived.Laws.Concat
namespace Go.Proofs.Ythmpdnndfgmmfaa.Disk
open Go.RowKit

attribute [local go_sem] Oper.semAt_some

/-- All that is there. -/
def Dk.all (D : Dk) : List UInt8 := (List.range D.n).flatMap D.there
theorem flat_len (D : Dk) (h : D.Ok) (k : Nat) : ((List.range k).flatMap D.there).length = k * 64 := by
  induction k with
  | zero => rfl
  | succ k ih => rw [List.range_succ, List.flatMap_append, List.length_append, ih, List.flatMap_singleton, h.there_len]; omega
theorem strB_add (a b : List UInt8) : strB a ++ strB b = strB (a ++ b) := by
  unfold strB
  apply ByteArray.ext
  simp

set_option maxRecDepth 100000 in
set_option maxHeartbeats 2000000 in
theorem all_held {w : World} {A : Nat → Prop} {L : List (Nat × Dk)} (h : Held w A L) {i p : Nat} {D : Dk} (hi : L[i]? = some (p, D)) :
    Calls Try.prog 19 #[.pointer (some ⟨p, 0, none⟩)] w fun e w' => e = .returned (.string (strB D.all)) ∧ Then w w' A L := by
  have ho := h.ok hi
  have hn := ho.n2
  have hadd : ∀ (k : Nat), k < D.n → ∀ W, (Op.stringOp .add (strB ((List.range k).flatMap D.there)) (strB (D.there k))).run Try.prog W = .ok (.string (strB ((List.range (k + 1)).flatMap D.there))) W := fun k hk W => by
    rw [run_string_add_sum _ _ _ (by
      show ((List.range k).flatMap D.there).toArray.size + (D.there k).toArray.size ≤ 9223372036854775807
      rw [List.size_toArray, List.size_toArray, flat_len D ho, ho.there_len]; omega), strB_add, List.range_succ, List.flatMap_append, List.flatMap_singleton]
  have HA := Lib.hid hadd
  have HH := Lib.hid h
  clear hadd ho h
  go_enter Try.func19, Try.ntmps19
  go_wp2
  go_loopw [3, 4] (fun s q wr => ∃ k : Nat, q = .int .i64 k ∧ k ≤ D.n ∧ s = .string (strB ((List.range k).flatMap D.there)) ∧ Then w wr A L) (fun _ q _ => D.n - (intOf q).toNat)
  case atStart => exact ⟨0, rfl, by omega, rfl, HH.out, Moved.refl _ _⟩
  case round =>
    obtain ⟨k, rfl, hk, rfl, hT⟩ := hrel
    have HT := Lib.hid hT
    clear hT
    by_cases hlt : k < D.n
    · have hread : D.read (k : Int) = (strB (D.there k), 0) := by unfold Dk.read; rw [if_pos (by omega)]; rfl
      have hrd := read_held HT.out.1 hi (k : Int) (by omega) (by omega)
      rw [hread] at hrd
      have HR := Lib.hid hrd
      have hsum := HA.out k hlt
      clear hread hrd
      go_wp2_with (first
        | (go_at_call 24; refine (size_held HT.out.1 hi).mono ?_; rintro e w' ⟨rfl, rfl⟩)
        | (go_at_call 16; refine HR.out.mono ?_; rintro e w2 ⟨rfl, hT2⟩))
      go_roundw
      case rel => exact ⟨k + 1, by go_num, by omega, by rw [List.range_succ, List.flatMap_append, List.flatMap_singleton], hT2.1, HT.out.2.trans hT2.2 fun _ _ e => e⟩
      case measure => simp [intOf]; omega
    · obtain rfl : k = D.n := by omega
      go_wp2_with (go_at_call 24; refine (size_held HT.out.1 hi).mono ?_; rintro e w' ⟨rfl, rfl⟩)
      all_goals go_ret
      all_goals exact ⟨rfl, HT.out⟩
end Go.Proofs.Ythmpdnndfgmmfaa.Disk
