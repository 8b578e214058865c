/- The document's own Sign, at every text. -/
import Derived.Test.YtmobnlofbopbeaaGreatDoorValSign
namespace Go.Proofs.YtmobnlofbopbeaaGreatDoor.Val
open Go.RowKit
open Kit (ret_int ret_bool)

set_option maxRecDepth 100000 in
set_option maxHeartbeats 2000000 in
/-- The document's own Sign. -/
theorem sign_any (s : ByteArray) (hs : s.size ≤ 140737488351232) (w : World) : SignOf s w := by
  by_cases h0 : 0 < s.size
  · have hlt := byteN_lt s 0
    by_cases c1 : byteN s 0 < 128
    · have hS : signB s = 1 := by
        unfold signB
        rw [if_neg (by omega), decode_bytes]
        unfold Lib.decodeN
        rw [if_pos c1, if_neg (by dsimp only; omega)]
      unfold SignOf
      rw [hS]
      have z0 : ((s.size : Int) == 0) = false := beq_eq_false_iff_ne.2 (by omega)
      have hz : (0 : Int) < (s.size : Int) := by omega
      have hb := byteN_at s 0 h0
      have c1z : (byteN s 0 : Int) < 128 := by omega
      clear hS
      go_enter Tryz.func89, Tryz.ntmps89
      go_wp2
      go_ret
      exact ⟨rfl, rfl⟩
    · by_cases c2 : byteN s 0 < 194 ∨ 244 < byteN s 0
      · have hft : Lib.firstT (byteN s 0) = 241 := by
          unfold Lib.firstT
          repeat' split
          all_goals omega
        have hS : signB s = 0 := by
          unfold signB
          rw [if_neg (by omega), decode_bytes, Lib.bad_eq _ _ _ _ _ hlt hft]
          simp
        unfold SignOf
        rw [hS]
        have z0 : ((s.size : Int) == 0) = false := beq_eq_false_iff_ne.2 (by omega)
        have hz : (0 : Int) < (s.size : Int) := by omega
        have hb := byteN_at s 0 h0
        clear hS
        rcases c2 with c2 | c2
        all_goals
          go_enter Tryz.func89, Tryz.ntmps89
          go_wp2
          go_ret
          exact ⟨rfl, rfl⟩
      · have : (194 ≤ byteN s 0 ∧ byteN s 0 ≤ 223) ∨ (224 ≤ byteN s 0 ∧ byteN s 0 ≤ 224) ∨ (225 ≤ byteN s 0 ∧ byteN s 0 ≤ 236) ∨ (237 ≤ byteN s 0 ∧ byteN s 0 ≤ 237) ∨ (238 ≤ byteN s 0 ∧ byteN s 0 ≤ 239) ∨ (240 ≤ byteN s 0 ∧ byteN s 0 ≤ 240) ∨ (241 ≤ byteN s 0 ∧ byteN s 0 ≤ 243) ∨ (244 ≤ byteN s 0 ∧ byteN s 0 ≤ 244) := by omega
        rcases this with h | h | h | h | h | h | h | h
        · exact sign_C2 s w hs h0 h.1 h.2
        · exact sign_E0 s w hs h0 h.1 h.2
        · exact sign_E1a s w hs h0 h.1 h.2
        · exact sign_ED s w hs h0 h.1 h.2
        · exact sign_E1b s w hs h0 h.1 h.2
        · exact sign_F0 s w hs h0 h.1 h.2
        · exact sign_F1 s w hs h0 h.1 h.2
        · exact sign_F4 s w hs h0 h.1 h.2
  · have hs0 : s.size = 0 := by omega
    have hS : signB s = 0 := by unfold signB; rw [if_pos hs0]
    unfold SignOf
    rw [hS]
    have z0 : ((s.size : Int) == 0) = true := beq_iff_eq.2 (by omega)
    clear hS hs0
    go_enter Tryz.func89, Tryz.ntmps89
    go_wp2
    go_ret
    exact ⟨rfl, rfl⟩
end Go.Proofs.YtmobnlofbopbeaaGreatDoor.Val
