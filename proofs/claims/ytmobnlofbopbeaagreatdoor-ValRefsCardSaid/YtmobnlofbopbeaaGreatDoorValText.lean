/- The document's own IsText; ValText. -/
import Derived.Test.YtmobnlofbopbeaaGreatDoorValSign2
import Derived.Deep.LoopGhost
import Derived.Lib.ValidAsc
namespace Go.Proofs.YtmobnlofbopbeaaGreatDoor.Val
open Go.RowKit
open Kit (ret_int ret_bool)

theorem signB_le (s : ByteArray) : signB s ≤ s.size := by
  unfold signB
  split
  · omega
  · split
    · omega
    · rw [decode_bytes]
      unfold Lib.decodeN
      repeat' split
      all_goals (dsimp only; omega)

/-- From a place on, by so many signs: is it a text? -/
def itF (s : ByteArray) : Nat → Nat → Bool
  | 0, _ => true
  | g + 1, i => if i < s.size then (if signB (s.extract i s.size) = 0 ∨ byteN s i < 32 ∨ byteN s i = 127 then false else itF s g (i + signB (s.extract i s.size))) else true
/-- The document's own IsText. -/
def isTextB (s : ByteArray) : Bool := itF s (s.size + 1) 0

set_option maxRecDepth 100000 in
set_option maxHeartbeats 1000000 in
theorem isText_any (s : ByteArray) (hs : s.size ≤ 140737488351232) (w : World) :
    Calls Tryz.prog 47 #[.string s] w fun e w' => e = .returned (.bool (isTextB s)) ∧ w = w' := by
  obtain ⟨ANS, hANS⟩ : ∃ ANS, isTextB s = ANS := ⟨_, rfl⟩
  rw [hANS]
  go_enter Tryz.func47, Tryz.ntmps47
  go_wp2
  go_loopg [3, 4] (s.size + 1) (fun gk i n wx => w = wx ∧ ∃ k : Nat, i = .int .i64 k ∧ k ≤ s.size ∧ s.size < k + gk ∧ itF s gk k = ANS)
  case atStart => exact ⟨rfl, 0, rfl, by omega, by omega, hANS⟩
  case round =>
    obtain ⟨rfl, k, rfl, hk, hg, hA⟩ := hrel
    obtain ⟨g', rfl⟩ : ∃ g', gk = g' + 1 := ⟨gk - 1, by omega⟩
    rw [itF] at hA
    clear hANS
    by_cases hlt : k < s.size
    · rw [if_pos hlt] at hA
      have hsl : ∀ W, (Instr.slice 9 (.string s) (some (.int .i64 (k : Int))) none none).run Tryz.prog W = .ok (.string (s.extract k s.size)) W := fun W => by
        rw [run_slice_string_from_if W 9 s .i64 (k : Int) Tryz.underlying9, if_pos ⟨by omega, by omega⟩, Int.toNat_natCast]
      have hsz := Lib.ext_size s k
      have HS := Lib.hid (sign_any (s.extract k s.size) (by omega) w)
      unfold SignOf at HS
      have hle := signB_le (s.extract k s.size)
      rw [hsz] at hle
      have hbk := byteN_at s k hlt
      have lk := byteN_lt s k
      have i1 : (k : Int) < (s.size : Int) := by omega
      clear hsz
      generalize signB (s.extract k s.size) = N at *
      by_cases c0 : N = 0
      · rw [if_pos (.inl c0)] at hA
        have HA := Lib.hid hA
        subst c0
        clear hA
        go_wp2_with fail
        refine HS.out.mono ?_; rintro e w' ⟨rfl, rfl⟩
        go_wp2
        go_ret
        exact ⟨ret_bool HA.out, rfl⟩
      · have n0 : ((N : Int) == 0) = false := beq_eq_false_iff_ne.2 (by omega)
        by_cases c1 : byteN s k < 32
        · rw [if_pos (.inr (.inl c1))] at hA
          have HA := Lib.hid hA
          clear hA
          go_wp2_with fail
          refine HS.out.mono ?_; rintro e w' ⟨rfl, rfl⟩
          go_wp2
          go_ret
          exact ⟨ret_bool HA.out, rfl⟩
        · by_cases c2 : byteN s k = 127
          · rw [if_pos (.inr (.inr c2))] at hA
            have HA := Lib.hid hA
            have n2 : ((byteN s k : Int) == 127) = true := beq_iff_eq.2 (by omega)
            clear hA c2
            go_wp2_with fail
            refine HS.out.mono ?_; rintro e w' ⟨rfl, rfl⟩
            go_wp2
            go_ret
            exact ⟨ret_bool HA.out, rfl⟩
          · rw [if_neg (by omega)] at hA
            have HA := Lib.hid hA
            have n2 : ((byteN s k : Int) == 127) = false := beq_eq_false_iff_ne.2 (by omega)
            clear hA c2
            go_wp2_with fail
            refine HS.out.mono ?_; rintro e w' ⟨rfl, rfl⟩
            go_wp2
            go_roundg g'
            case rel => exact ⟨rfl, k + N, by go_num, by omega, by omega, HA.out⟩
            case measure => omega
    · rw [if_neg hlt] at hA
      have HA := Lib.hid hA
      have i1 : ¬ (k : Int) < (s.size : Int) := by omega
      clear hA
      go_wp2
      go_ret
      exact ⟨ret_bool HA.out, rfl⟩
end Go.Proofs.YtmobnlofbopbeaaGreatDoor.Val
