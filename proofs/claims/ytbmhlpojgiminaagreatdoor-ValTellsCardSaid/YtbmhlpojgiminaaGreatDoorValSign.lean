/- The document's own Sign and IsText. -/
import Derived.Test.YtbmhlpojgiminaaGreatDoorValEnv
import Derived.Lib.DecodeNEq
import Derived.WalkLawsBesides
import Derived.Laws.BytesString
namespace Go.Proofs.YtbmhlpojgiminaaGreatDoor.Val
open Go.RowKit
open Kit (ret_int ret_bool)

/-- How many bytes the first sign has; 0: none is right. -/
def signB (s : ByteArray) : Nat := if s.size = 0 then 0 else if (Utf8.decode s 0).1 = 65533 ∧ (Utf8.decode s 0).2 = 1 then 0 else (Utf8.decode s 0).2
/-- One of a text's bytes. -/
def byteN (s : ByteArray) (i : Nat) : Nat := (s.get! i).toNat
theorem byteN_lt (s : ByteArray) (i : Nat) : byteN s i < 256 := (s.get! i).toNat_lt
theorem byteN_at (s : ByteArray) (i : Nat) (h : i < s.size) : (s[i]'h).toNat = byteN s i := by
  unfold byteN; rw [← Utf8W.get!_of_lt s i h]
theorem decode_bytes (s : ByteArray) : Utf8.decode s 0 = Lib.decodeN s.size (byteN s 0) (byteN s 1) (byteN s 2) (byteN s 3) := by
  rw [Lib.decode_at, Nat.sub_zero]; rfl

/-- What is no right sign of sz bytes. -/
def badSign (s : ByteArray) (sz lo hi : Nat) : Prop := s.size < sz ∨ byteN s 1 < lo ∨ hi < byteN s 1 ∨ (2 < sz ∧ (byteN s 2 < 128 ∨ 191 < byteN s 2)) ∨ (3 < sz ∧ (byteN s 3 < 128 ∨ 191 < byteN s 3))
instance (s : ByteArray) (sz lo hi : Nat) : Decidable (badSign s sz lo hi) := by unfold badSign; infer_instance
theorem signB_slow {s : ByteArray} {sz lo hi : Nat} (h : 0 < s.size) (h2 : 2 ≤ sz) (h4 : sz ≤ 4) (e : Lib.slowN s.size (byteN s 0) (byteN s 1) (byteN s 2) (byteN s 3) sz lo hi = Lib.decodeN s.size (byteN s 0) (byteN s 1) (byteN s 2) (byteN s 3)) :
    signB s = if badSign s sz lo hi then 0 else sz := by
  unfold signB
  rw [if_neg (by omega), decode_bytes, ← e]
  by_cases hb : badSign s sz lo hi
  · have hv : Lib.slowN s.size (byteN s 0) (byteN s 1) (byteN s 2) (byteN s 3) sz lo hi = (65533, 1) := by
      unfold badSign at hb
      unfold Lib.slowN
      repeat' split
      all_goals first | rfl | (exfalso; omega)
    rw [if_pos hb, hv, if_pos ⟨rfl, rfl⟩]
  · have hv : (Lib.slowN s.size (byteN s 0) (byteN s 1) (byteN s 2) (byteN s 3) sz lo hi).2 = sz := by
      unfold badSign at hb
      unfold Lib.slowN
      repeat' split
      all_goals first | (exfalso; omega) | (dsimp only; omega)
    rw [if_neg hb, if_neg (by omega), hv]

abbrev SignOf (s : ByteArray) (w : World) : Prop := Calls Tryz.prog 72 #[.string s] w fun e w' => e = .returned (.int .i64 (signB s)) ∧ w = w'

set_option maxRecDepth 100000 in
set_option maxHeartbeats 2000000 in
theorem sign_C2 (s : ByteArray) (w : World) (hs : s.size ≤ 140737488351232) (h0 : 0 < s.size) (h1 : 194 ≤ byteN s 0) (h2 : byteN s 0 ≤ 223) : SignOf s w := by
  have hS := signB_slow (s := s) (sz := 2) (lo := 128) (hi := 191) h0 (by decide) (by decide) (Lib.slow_C2 s.size (byteN s 0) (byteN s 1) (byteN s 2) (byteN s 3) h0 (byteN_lt _ _) (byteN_lt _ _) (byteN_lt _ _) ⟨by omega, by omega⟩)
  unfold SignOf
  rw [hS]
  have z0 : ((s.size : Int) == 0) = false := beq_eq_false_iff_ne.2 (by omega)
  have hz : (0 : Int) < (s.size : Int) := by omega
  have hb := byteN_at s 0 h0
  have q224 : ((byteN s 0 : Int) == 224) = false := beq_eq_false_iff_ne.2 (by omega)
  have q237 : ((byteN s 0 : Int) == 237) = false := beq_eq_false_iff_ne.2 (by omega)
  have q240 : ((byteN s 0 : Int) == 240) = false := beq_eq_false_iff_ne.2 (by omega)
  have q244 : ((byteN s 0 : Int) == 244) = false := beq_eq_false_iff_ne.2 (by omega)
  by_cases hl : s.size < 2
  · rw [if_pos (.inl hl)]
    have hlz : (s.size : Int) < 2 := by omega
    clear hS
    go_enter Tryz.func72, Tryz.ntmps72
    go_wp2
    go_ret
    exact ⟨rfl, rfl⟩
  · have hlz : ¬ (s.size : Int) < 2 := by omega
    have hb1 := byteN_at s 1 (by omega)
    have l1 := byteN_lt s 1
    by_cases hlo : byteN s 1 < 128
    · rw [if_pos (.inr (.inl hlo))]
      clear hS
      go_enter Tryz.func72, Tryz.ntmps72
      go_wp2
      go_ret
      exact ⟨rfl, rfl⟩
    · by_cases hhi : 191 < byteN s 1
      · rw [if_pos (.inr (.inr (.inl hhi)))]
        clear hS
        go_enter Tryz.func72, Tryz.ntmps72
        go_wp2
        go_ret
        exact ⟨rfl, rfl⟩
      · generalize hA : (if badSign s 2 128 191 then 0 else 2) = A
        have HA := Lib.hid hA
        clear hS hA
        go_enter Tryz.func72, Tryz.ntmps72
        go_wp2
        go_loop [7] (fun i => ∃ k : Nat, 2 ≤ k ∧ k ≤ 2 ∧ i = .int .i64 k ∧ ∀ j, 2 ≤ j → j < k → 128 ≤ byteN s j ∧ byteN s j ≤ 191) (fun i => 2 - (intOf i).toNat)
        case atStart => exact ⟨2, by omega, by omega, rfl, by omega⟩
        case round =>
          obtain ⟨k, hk2, hkn, rfl, hok⟩ := hrel
          have HOK := Lib.hid hok
          clear hok hb hb1
          by_cases hlt : k < 2
          · exact absurd hlt (by omega)
          · obtain rfl : k = 2 := by omega
            go_wp2
            go_ret
            refine ⟨ret_int ?_, rfl⟩
            have g2 := HOK.out 2
            have g3 := HOK.out 3
            rw [← HA.out, if_neg (by unfold badSign; omega)]; rfl

set_option maxRecDepth 100000 in
set_option maxHeartbeats 2000000 in
theorem sign_E0 (s : ByteArray) (w : World) (hs : s.size ≤ 140737488351232) (h0 : 0 < s.size) (h1 : 224 ≤ byteN s 0) (h2 : byteN s 0 ≤ 224) : SignOf s w := by
  have hS := signB_slow (s := s) (sz := 3) (lo := 160) (hi := 191) h0 (by decide) (by decide) (Lib.slow_E0 s.size (byteN s 0) (byteN s 1) (byteN s 2) (byteN s 3) h0 (byteN_lt _ _) (byteN_lt _ _) (byteN_lt _ _) (by omega))
  unfold SignOf
  rw [hS]
  have z0 : ((s.size : Int) == 0) = false := beq_eq_false_iff_ne.2 (by omega)
  have hz : (0 : Int) < (s.size : Int) := by omega
  have hb := byteN_at s 0 h0
  have he : ((byteN s 0 : Int) == 224) = true := beq_iff_eq.2 (by omega)
  have q237 : ((byteN s 0 : Int) == 237) = false := beq_eq_false_iff_ne.2 (by omega)
  have q240 : ((byteN s 0 : Int) == 240) = false := beq_eq_false_iff_ne.2 (by omega)
  have q244 : ((byteN s 0 : Int) == 244) = false := beq_eq_false_iff_ne.2 (by omega)
  by_cases hl : s.size < 3
  · rw [if_pos (.inl hl)]
    have hlz : (s.size : Int) < 3 := by omega
    clear hS
    go_enter Tryz.func72, Tryz.ntmps72
    go_wp2
    go_ret
    exact ⟨rfl, rfl⟩
  · have hlz : ¬ (s.size : Int) < 3 := by omega
    have hb1 := byteN_at s 1 (by omega)
    have l1 := byteN_lt s 1
    by_cases hlo : byteN s 1 < 160
    · rw [if_pos (.inr (.inl hlo))]
      clear hS
      go_enter Tryz.func72, Tryz.ntmps72
      go_wp2
      go_ret
      exact ⟨rfl, rfl⟩
    · by_cases hhi : 191 < byteN s 1
      · rw [if_pos (.inr (.inr (.inl hhi)))]
        clear hS
        go_enter Tryz.func72, Tryz.ntmps72
        go_wp2
        go_ret
        exact ⟨rfl, rfl⟩
      · generalize hA : (if badSign s 3 160 191 then 0 else 3) = A
        have HA := Lib.hid hA
        clear hS hA
        go_enter Tryz.func72, Tryz.ntmps72
        go_wp2
        go_loop [7] (fun i => ∃ k : Nat, 2 ≤ k ∧ k ≤ 3 ∧ i = .int .i64 k ∧ ∀ j, 2 ≤ j → j < k → 128 ≤ byteN s j ∧ byteN s j ≤ 191) (fun i => 3 - (intOf i).toNat)
        case atStart => exact ⟨2, by omega, by omega, rfl, by omega⟩
        case round =>
          obtain ⟨k, hk2, hkn, rfl, hok⟩ := hrel
          have HOK := Lib.hid hok
          clear hok hb hb1
          by_cases hlt : k < 3
          · have hbk := byteN_at s k (by omega)
            have lk := byteN_lt s k
            have i1 : (k : Int) < (s.size : Int) := by omega
            by_cases c1 : byteN s k < 128
            · go_wp2
              go_ret
              refine ⟨ret_int ?_, rfl⟩
              rw [← HA.out, if_pos (by unfold badSign; have : k = 2 ∨ k = 3 := by omega
                                       rcases this with rfl | rfl <;> omega)]; rfl
            · by_cases c2 : 191 < byteN s k
              · go_wp2
                go_ret
                refine ⟨ret_int ?_, rfl⟩
                rw [← HA.out, if_pos (by unfold badSign; have : k = 2 ∨ k = 3 := by omega
                                         rcases this with rfl | rfl <;> omega)]; rfl
              · go_wp2
                go_round
                case rel =>
                  refine ⟨k + 1, by omega, by omega, by go_num, fun j h1 h2 => ?_⟩
                  rcases Nat.lt_or_ge j k with h | h
                  · exact HOK.out j h1 h
                  · obtain rfl : j = k := by omega
                    omega
                case measure => simp [intOf]; omega
          · obtain rfl : k = 3 := by omega
            go_wp2
            go_ret
            refine ⟨ret_int ?_, rfl⟩
            have g2 := HOK.out 2
            have g3 := HOK.out 3
            rw [← HA.out, if_neg (by unfold badSign; omega)]; rfl

set_option maxRecDepth 100000 in
set_option maxHeartbeats 2000000 in
theorem sign_E1a (s : ByteArray) (w : World) (hs : s.size ≤ 140737488351232) (h0 : 0 < s.size) (h1 : 225 ≤ byteN s 0) (h2 : byteN s 0 ≤ 236) : SignOf s w := by
  have hS := signB_slow (s := s) (sz := 3) (lo := 128) (hi := 191) h0 (by decide) (by decide) (Lib.slow_E1 s.size (byteN s 0) (byteN s 1) (byteN s 2) (byteN s 3) h0 (byteN_lt _ _) (byteN_lt _ _) (byteN_lt _ _) (.inl ⟨by omega, by omega⟩))
  unfold SignOf
  rw [hS]
  have z0 : ((s.size : Int) == 0) = false := beq_eq_false_iff_ne.2 (by omega)
  have hz : (0 : Int) < (s.size : Int) := by omega
  have hb := byteN_at s 0 h0
  have q224 : ((byteN s 0 : Int) == 224) = false := beq_eq_false_iff_ne.2 (by omega)
  have q237 : ((byteN s 0 : Int) == 237) = false := beq_eq_false_iff_ne.2 (by omega)
  have q240 : ((byteN s 0 : Int) == 240) = false := beq_eq_false_iff_ne.2 (by omega)
  have q244 : ((byteN s 0 : Int) == 244) = false := beq_eq_false_iff_ne.2 (by omega)
  by_cases hl : s.size < 3
  · rw [if_pos (.inl hl)]
    have hlz : (s.size : Int) < 3 := by omega
    clear hS
    go_enter Tryz.func72, Tryz.ntmps72
    go_wp2
    go_ret
    exact ⟨rfl, rfl⟩
  · have hlz : ¬ (s.size : Int) < 3 := by omega
    have hb1 := byteN_at s 1 (by omega)
    have l1 := byteN_lt s 1
    by_cases hlo : byteN s 1 < 128
    · rw [if_pos (.inr (.inl hlo))]
      clear hS
      go_enter Tryz.func72, Tryz.ntmps72
      go_wp2
      go_ret
      exact ⟨rfl, rfl⟩
    · by_cases hhi : 191 < byteN s 1
      · rw [if_pos (.inr (.inr (.inl hhi)))]
        clear hS
        go_enter Tryz.func72, Tryz.ntmps72
        go_wp2
        go_ret
        exact ⟨rfl, rfl⟩
      · generalize hA : (if badSign s 3 128 191 then 0 else 3) = A
        have HA := Lib.hid hA
        clear hS hA
        go_enter Tryz.func72, Tryz.ntmps72
        go_wp2
        go_loop [7] (fun i => ∃ k : Nat, 2 ≤ k ∧ k ≤ 3 ∧ i = .int .i64 k ∧ ∀ j, 2 ≤ j → j < k → 128 ≤ byteN s j ∧ byteN s j ≤ 191) (fun i => 3 - (intOf i).toNat)
        case atStart => exact ⟨2, by omega, by omega, rfl, by omega⟩
        case round =>
          obtain ⟨k, hk2, hkn, rfl, hok⟩ := hrel
          have HOK := Lib.hid hok
          clear hok hb hb1
          by_cases hlt : k < 3
          · have hbk := byteN_at s k (by omega)
            have lk := byteN_lt s k
            have i1 : (k : Int) < (s.size : Int) := by omega
            by_cases c1 : byteN s k < 128
            · go_wp2
              go_ret
              refine ⟨ret_int ?_, rfl⟩
              rw [← HA.out, if_pos (by unfold badSign; have : k = 2 ∨ k = 3 := by omega
                                       rcases this with rfl | rfl <;> omega)]; rfl
            · by_cases c2 : 191 < byteN s k
              · go_wp2
                go_ret
                refine ⟨ret_int ?_, rfl⟩
                rw [← HA.out, if_pos (by unfold badSign; have : k = 2 ∨ k = 3 := by omega
                                         rcases this with rfl | rfl <;> omega)]; rfl
              · go_wp2
                go_round
                case rel =>
                  refine ⟨k + 1, by omega, by omega, by go_num, fun j h1 h2 => ?_⟩
                  rcases Nat.lt_or_ge j k with h | h
                  · exact HOK.out j h1 h
                  · obtain rfl : j = k := by omega
                    omega
                case measure => simp [intOf]; omega
          · obtain rfl : k = 3 := by omega
            go_wp2
            go_ret
            refine ⟨ret_int ?_, rfl⟩
            have g2 := HOK.out 2
            have g3 := HOK.out 3
            rw [← HA.out, if_neg (by unfold badSign; omega)]; rfl

set_option maxRecDepth 100000 in
set_option maxHeartbeats 2000000 in
theorem sign_ED (s : ByteArray) (w : World) (hs : s.size ≤ 140737488351232) (h0 : 0 < s.size) (h1 : 237 ≤ byteN s 0) (h2 : byteN s 0 ≤ 237) : SignOf s w := by
  have hS := signB_slow (s := s) (sz := 3) (lo := 128) (hi := 159) h0 (by decide) (by decide) (Lib.slow_ED s.size (byteN s 0) (byteN s 1) (byteN s 2) (byteN s 3) h0 (byteN_lt _ _) (byteN_lt _ _) (byteN_lt _ _) (by omega))
  unfold SignOf
  rw [hS]
  have z0 : ((s.size : Int) == 0) = false := beq_eq_false_iff_ne.2 (by omega)
  have hz : (0 : Int) < (s.size : Int) := by omega
  have hb := byteN_at s 0 h0
  have he : ((byteN s 0 : Int) == 237) = true := beq_iff_eq.2 (by omega)
  have q224 : ((byteN s 0 : Int) == 224) = false := beq_eq_false_iff_ne.2 (by omega)
  have q240 : ((byteN s 0 : Int) == 240) = false := beq_eq_false_iff_ne.2 (by omega)
  have q244 : ((byteN s 0 : Int) == 244) = false := beq_eq_false_iff_ne.2 (by omega)
  by_cases hl : s.size < 3
  · rw [if_pos (.inl hl)]
    have hlz : (s.size : Int) < 3 := by omega
    clear hS
    go_enter Tryz.func72, Tryz.ntmps72
    go_wp2
    go_ret
    exact ⟨rfl, rfl⟩
  · have hlz : ¬ (s.size : Int) < 3 := by omega
    have hb1 := byteN_at s 1 (by omega)
    have l1 := byteN_lt s 1
    by_cases hlo : byteN s 1 < 128
    · rw [if_pos (.inr (.inl hlo))]
      clear hS
      go_enter Tryz.func72, Tryz.ntmps72
      go_wp2
      go_ret
      exact ⟨rfl, rfl⟩
    · by_cases hhi : 159 < byteN s 1
      · rw [if_pos (.inr (.inr (.inl hhi)))]
        clear hS
        go_enter Tryz.func72, Tryz.ntmps72
        go_wp2
        go_ret
        exact ⟨rfl, rfl⟩
      · generalize hA : (if badSign s 3 128 159 then 0 else 3) = A
        have HA := Lib.hid hA
        clear hS hA
        go_enter Tryz.func72, Tryz.ntmps72
        go_wp2
        go_loop [7] (fun i => ∃ k : Nat, 2 ≤ k ∧ k ≤ 3 ∧ i = .int .i64 k ∧ ∀ j, 2 ≤ j → j < k → 128 ≤ byteN s j ∧ byteN s j ≤ 191) (fun i => 3 - (intOf i).toNat)
        case atStart => exact ⟨2, by omega, by omega, rfl, by omega⟩
        case round =>
          obtain ⟨k, hk2, hkn, rfl, hok⟩ := hrel
          have HOK := Lib.hid hok
          clear hok hb hb1
          by_cases hlt : k < 3
          · have hbk := byteN_at s k (by omega)
            have lk := byteN_lt s k
            have i1 : (k : Int) < (s.size : Int) := by omega
            by_cases c1 : byteN s k < 128
            · go_wp2
              go_ret
              refine ⟨ret_int ?_, rfl⟩
              rw [← HA.out, if_pos (by unfold badSign; have : k = 2 ∨ k = 3 := by omega
                                       rcases this with rfl | rfl <;> omega)]; rfl
            · by_cases c2 : 191 < byteN s k
              · go_wp2
                go_ret
                refine ⟨ret_int ?_, rfl⟩
                rw [← HA.out, if_pos (by unfold badSign; have : k = 2 ∨ k = 3 := by omega
                                         rcases this with rfl | rfl <;> omega)]; rfl
              · go_wp2
                go_round
                case rel =>
                  refine ⟨k + 1, by omega, by omega, by go_num, fun j h1 h2 => ?_⟩
                  rcases Nat.lt_or_ge j k with h | h
                  · exact HOK.out j h1 h
                  · obtain rfl : j = k := by omega
                    omega
                case measure => simp [intOf]; omega
          · obtain rfl : k = 3 := by omega
            go_wp2
            go_ret
            refine ⟨ret_int ?_, rfl⟩
            have g2 := HOK.out 2
            have g3 := HOK.out 3
            rw [← HA.out, if_neg (by unfold badSign; omega)]; rfl

set_option maxRecDepth 100000 in
set_option maxHeartbeats 2000000 in
theorem sign_E1b (s : ByteArray) (w : World) (hs : s.size ≤ 140737488351232) (h0 : 0 < s.size) (h1 : 238 ≤ byteN s 0) (h2 : byteN s 0 ≤ 239) : SignOf s w := by
  have hS := signB_slow (s := s) (sz := 3) (lo := 128) (hi := 191) h0 (by decide) (by decide) (Lib.slow_E1 s.size (byteN s 0) (byteN s 1) (byteN s 2) (byteN s 3) h0 (byteN_lt _ _) (byteN_lt _ _) (byteN_lt _ _) (.inr ⟨by omega, by omega⟩))
  unfold SignOf
  rw [hS]
  have z0 : ((s.size : Int) == 0) = false := beq_eq_false_iff_ne.2 (by omega)
  have hz : (0 : Int) < (s.size : Int) := by omega
  have hb := byteN_at s 0 h0
  have q224 : ((byteN s 0 : Int) == 224) = false := beq_eq_false_iff_ne.2 (by omega)
  have q237 : ((byteN s 0 : Int) == 237) = false := beq_eq_false_iff_ne.2 (by omega)
  have q240 : ((byteN s 0 : Int) == 240) = false := beq_eq_false_iff_ne.2 (by omega)
  have q244 : ((byteN s 0 : Int) == 244) = false := beq_eq_false_iff_ne.2 (by omega)
  by_cases hl : s.size < 3
  · rw [if_pos (.inl hl)]
    have hlz : (s.size : Int) < 3 := by omega
    clear hS
    go_enter Tryz.func72, Tryz.ntmps72
    go_wp2
    go_ret
    exact ⟨rfl, rfl⟩
  · have hlz : ¬ (s.size : Int) < 3 := by omega
    have hb1 := byteN_at s 1 (by omega)
    have l1 := byteN_lt s 1
    by_cases hlo : byteN s 1 < 128
    · rw [if_pos (.inr (.inl hlo))]
      clear hS
      go_enter Tryz.func72, Tryz.ntmps72
      go_wp2
      go_ret
      exact ⟨rfl, rfl⟩
    · by_cases hhi : 191 < byteN s 1
      · rw [if_pos (.inr (.inr (.inl hhi)))]
        clear hS
        go_enter Tryz.func72, Tryz.ntmps72
        go_wp2
        go_ret
        exact ⟨rfl, rfl⟩
      · generalize hA : (if badSign s 3 128 191 then 0 else 3) = A
        have HA := Lib.hid hA
        clear hS hA
        go_enter Tryz.func72, Tryz.ntmps72
        go_wp2
        go_loop [7] (fun i => ∃ k : Nat, 2 ≤ k ∧ k ≤ 3 ∧ i = .int .i64 k ∧ ∀ j, 2 ≤ j → j < k → 128 ≤ byteN s j ∧ byteN s j ≤ 191) (fun i => 3 - (intOf i).toNat)
        case atStart => exact ⟨2, by omega, by omega, rfl, by omega⟩
        case round =>
          obtain ⟨k, hk2, hkn, rfl, hok⟩ := hrel
          have HOK := Lib.hid hok
          clear hok hb hb1
          by_cases hlt : k < 3
          · have hbk := byteN_at s k (by omega)
            have lk := byteN_lt s k
            have i1 : (k : Int) < (s.size : Int) := by omega
            by_cases c1 : byteN s k < 128
            · go_wp2
              go_ret
              refine ⟨ret_int ?_, rfl⟩
              rw [← HA.out, if_pos (by unfold badSign; have : k = 2 ∨ k = 3 := by omega
                                       rcases this with rfl | rfl <;> omega)]; rfl
            · by_cases c2 : 191 < byteN s k
              · go_wp2
                go_ret
                refine ⟨ret_int ?_, rfl⟩
                rw [← HA.out, if_pos (by unfold badSign; have : k = 2 ∨ k = 3 := by omega
                                         rcases this with rfl | rfl <;> omega)]; rfl
              · go_wp2
                go_round
                case rel =>
                  refine ⟨k + 1, by omega, by omega, by go_num, fun j h1 h2 => ?_⟩
                  rcases Nat.lt_or_ge j k with h | h
                  · exact HOK.out j h1 h
                  · obtain rfl : j = k := by omega
                    omega
                case measure => simp [intOf]; omega
          · obtain rfl : k = 3 := by omega
            go_wp2
            go_ret
            refine ⟨ret_int ?_, rfl⟩
            have g2 := HOK.out 2
            have g3 := HOK.out 3
            rw [← HA.out, if_neg (by unfold badSign; omega)]; rfl

set_option maxRecDepth 100000 in
set_option maxHeartbeats 2000000 in
theorem sign_F0 (s : ByteArray) (w : World) (hs : s.size ≤ 140737488351232) (h0 : 0 < s.size) (h1 : 240 ≤ byteN s 0) (h2 : byteN s 0 ≤ 240) : SignOf s w := by
  have hS := signB_slow (s := s) (sz := 4) (lo := 144) (hi := 191) h0 (by decide) (by decide) (Lib.slow_F0 s.size (byteN s 0) (byteN s 1) (byteN s 2) (byteN s 3) h0 (byteN_lt _ _) (byteN_lt _ _) (byteN_lt _ _) (by omega))
  unfold SignOf
  rw [hS]
  have z0 : ((s.size : Int) == 0) = false := beq_eq_false_iff_ne.2 (by omega)
  have hz : (0 : Int) < (s.size : Int) := by omega
  have hb := byteN_at s 0 h0
  have he : ((byteN s 0 : Int) == 240) = true := beq_iff_eq.2 (by omega)
  have q224 : ((byteN s 0 : Int) == 224) = false := beq_eq_false_iff_ne.2 (by omega)
  have q237 : ((byteN s 0 : Int) == 237) = false := beq_eq_false_iff_ne.2 (by omega)
  have q244 : ((byteN s 0 : Int) == 244) = false := beq_eq_false_iff_ne.2 (by omega)
  by_cases hl : s.size < 4
  · rw [if_pos (.inl hl)]
    have hlz : (s.size : Int) < 4 := by omega
    clear hS
    go_enter Tryz.func72, Tryz.ntmps72
    go_wp2
    go_ret
    exact ⟨rfl, rfl⟩
  · have hlz : ¬ (s.size : Int) < 4 := by omega
    have hb1 := byteN_at s 1 (by omega)
    have l1 := byteN_lt s 1
    by_cases hlo : byteN s 1 < 144
    · rw [if_pos (.inr (.inl hlo))]
      clear hS
      go_enter Tryz.func72, Tryz.ntmps72
      go_wp2
      go_ret
      exact ⟨rfl, rfl⟩
    · by_cases hhi : 191 < byteN s 1
      · rw [if_pos (.inr (.inr (.inl hhi)))]
        clear hS
        go_enter Tryz.func72, Tryz.ntmps72
        go_wp2
        go_ret
        exact ⟨rfl, rfl⟩
      · generalize hA : (if badSign s 4 144 191 then 0 else 4) = A
        have HA := Lib.hid hA
        clear hS hA
        go_enter Tryz.func72, Tryz.ntmps72
        go_wp2
        go_loop [7] (fun i => ∃ k : Nat, 2 ≤ k ∧ k ≤ 4 ∧ i = .int .i64 k ∧ ∀ j, 2 ≤ j → j < k → 128 ≤ byteN s j ∧ byteN s j ≤ 191) (fun i => 4 - (intOf i).toNat)
        case atStart => exact ⟨2, by omega, by omega, rfl, by omega⟩
        case round =>
          obtain ⟨k, hk2, hkn, rfl, hok⟩ := hrel
          have HOK := Lib.hid hok
          clear hok hb hb1
          by_cases hlt : k < 4
          · have hbk := byteN_at s k (by omega)
            have lk := byteN_lt s k
            have i1 : (k : Int) < (s.size : Int) := by omega
            by_cases c1 : byteN s k < 128
            · go_wp2
              go_ret
              refine ⟨ret_int ?_, rfl⟩
              rw [← HA.out, if_pos (by unfold badSign; have : k = 2 ∨ k = 3 := by omega
                                       rcases this with rfl | rfl <;> omega)]; rfl
            · by_cases c2 : 191 < byteN s k
              · go_wp2
                go_ret
                refine ⟨ret_int ?_, rfl⟩
                rw [← HA.out, if_pos (by unfold badSign; have : k = 2 ∨ k = 3 := by omega
                                         rcases this with rfl | rfl <;> omega)]; rfl
              · go_wp2
                go_round
                case rel =>
                  refine ⟨k + 1, by omega, by omega, by go_num, fun j h1 h2 => ?_⟩
                  rcases Nat.lt_or_ge j k with h | h
                  · exact HOK.out j h1 h
                  · obtain rfl : j = k := by omega
                    omega
                case measure => simp [intOf]; omega
          · obtain rfl : k = 4 := by omega
            go_wp2
            go_ret
            refine ⟨ret_int ?_, rfl⟩
            have g2 := HOK.out 2
            have g3 := HOK.out 3
            rw [← HA.out, if_neg (by unfold badSign; omega)]; rfl

set_option maxRecDepth 100000 in
set_option maxHeartbeats 2000000 in
theorem sign_F1 (s : ByteArray) (w : World) (hs : s.size ≤ 140737488351232) (h0 : 0 < s.size) (h1 : 241 ≤ byteN s 0) (h2 : byteN s 0 ≤ 243) : SignOf s w := by
  have hS := signB_slow (s := s) (sz := 4) (lo := 128) (hi := 191) h0 (by decide) (by decide) (Lib.slow_F1 s.size (byteN s 0) (byteN s 1) (byteN s 2) (byteN s 3) h0 (byteN_lt _ _) (byteN_lt _ _) (byteN_lt _ _) ⟨by omega, by omega⟩)
  unfold SignOf
  rw [hS]
  have z0 : ((s.size : Int) == 0) = false := beq_eq_false_iff_ne.2 (by omega)
  have hz : (0 : Int) < (s.size : Int) := by omega
  have hb := byteN_at s 0 h0
  have q224 : ((byteN s 0 : Int) == 224) = false := beq_eq_false_iff_ne.2 (by omega)
  have q237 : ((byteN s 0 : Int) == 237) = false := beq_eq_false_iff_ne.2 (by omega)
  have q240 : ((byteN s 0 : Int) == 240) = false := beq_eq_false_iff_ne.2 (by omega)
  have q244 : ((byteN s 0 : Int) == 244) = false := beq_eq_false_iff_ne.2 (by omega)
  by_cases hl : s.size < 4
  · rw [if_pos (.inl hl)]
    have hlz : (s.size : Int) < 4 := by omega
    clear hS
    go_enter Tryz.func72, Tryz.ntmps72
    go_wp2
    go_ret
    exact ⟨rfl, rfl⟩
  · have hlz : ¬ (s.size : Int) < 4 := by omega
    have hb1 := byteN_at s 1 (by omega)
    have l1 := byteN_lt s 1
    by_cases hlo : byteN s 1 < 128
    · rw [if_pos (.inr (.inl hlo))]
      clear hS
      go_enter Tryz.func72, Tryz.ntmps72
      go_wp2
      go_ret
      exact ⟨rfl, rfl⟩
    · by_cases hhi : 191 < byteN s 1
      · rw [if_pos (.inr (.inr (.inl hhi)))]
        clear hS
        go_enter Tryz.func72, Tryz.ntmps72
        go_wp2
        go_ret
        exact ⟨rfl, rfl⟩
      · generalize hA : (if badSign s 4 128 191 then 0 else 4) = A
        have HA := Lib.hid hA
        clear hS hA
        go_enter Tryz.func72, Tryz.ntmps72
        go_wp2
        go_loop [7] (fun i => ∃ k : Nat, 2 ≤ k ∧ k ≤ 4 ∧ i = .int .i64 k ∧ ∀ j, 2 ≤ j → j < k → 128 ≤ byteN s j ∧ byteN s j ≤ 191) (fun i => 4 - (intOf i).toNat)
        case atStart => exact ⟨2, by omega, by omega, rfl, by omega⟩
        case round =>
          obtain ⟨k, hk2, hkn, rfl, hok⟩ := hrel
          have HOK := Lib.hid hok
          clear hok hb hb1
          by_cases hlt : k < 4
          · have hbk := byteN_at s k (by omega)
            have lk := byteN_lt s k
            have i1 : (k : Int) < (s.size : Int) := by omega
            by_cases c1 : byteN s k < 128
            · go_wp2
              go_ret
              refine ⟨ret_int ?_, rfl⟩
              rw [← HA.out, if_pos (by unfold badSign; have : k = 2 ∨ k = 3 := by omega
                                       rcases this with rfl | rfl <;> omega)]; rfl
            · by_cases c2 : 191 < byteN s k
              · go_wp2
                go_ret
                refine ⟨ret_int ?_, rfl⟩
                rw [← HA.out, if_pos (by unfold badSign; have : k = 2 ∨ k = 3 := by omega
                                         rcases this with rfl | rfl <;> omega)]; rfl
              · go_wp2
                go_round
                case rel =>
                  refine ⟨k + 1, by omega, by omega, by go_num, fun j h1 h2 => ?_⟩
                  rcases Nat.lt_or_ge j k with h | h
                  · exact HOK.out j h1 h
                  · obtain rfl : j = k := by omega
                    omega
                case measure => simp [intOf]; omega
          · obtain rfl : k = 4 := by omega
            go_wp2
            go_ret
            refine ⟨ret_int ?_, rfl⟩
            have g2 := HOK.out 2
            have g3 := HOK.out 3
            rw [← HA.out, if_neg (by unfold badSign; omega)]; rfl

set_option maxRecDepth 100000 in
set_option maxHeartbeats 2000000 in
theorem sign_F4 (s : ByteArray) (w : World) (hs : s.size ≤ 140737488351232) (h0 : 0 < s.size) (h1 : 244 ≤ byteN s 0) (h2 : byteN s 0 ≤ 244) : SignOf s w := by
  have hS := signB_slow (s := s) (sz := 4) (lo := 128) (hi := 143) h0 (by decide) (by decide) (Lib.slow_F4 s.size (byteN s 0) (byteN s 1) (byteN s 2) (byteN s 3) h0 (byteN_lt _ _) (byteN_lt _ _) (byteN_lt _ _) (by omega))
  unfold SignOf
  rw [hS]
  have z0 : ((s.size : Int) == 0) = false := beq_eq_false_iff_ne.2 (by omega)
  have hz : (0 : Int) < (s.size : Int) := by omega
  have hb := byteN_at s 0 h0
  have he : ((byteN s 0 : Int) == 244) = true := beq_iff_eq.2 (by omega)
  have q224 : ((byteN s 0 : Int) == 224) = false := beq_eq_false_iff_ne.2 (by omega)
  have q237 : ((byteN s 0 : Int) == 237) = false := beq_eq_false_iff_ne.2 (by omega)
  have q240 : ((byteN s 0 : Int) == 240) = false := beq_eq_false_iff_ne.2 (by omega)
  by_cases hl : s.size < 4
  · rw [if_pos (.inl hl)]
    have hlz : (s.size : Int) < 4 := by omega
    clear hS
    go_enter Tryz.func72, Tryz.ntmps72
    go_wp2
    go_ret
    exact ⟨rfl, rfl⟩
  · have hlz : ¬ (s.size : Int) < 4 := by omega
    have hb1 := byteN_at s 1 (by omega)
    have l1 := byteN_lt s 1
    by_cases hlo : byteN s 1 < 128
    · rw [if_pos (.inr (.inl hlo))]
      clear hS
      go_enter Tryz.func72, Tryz.ntmps72
      go_wp2
      go_ret
      exact ⟨rfl, rfl⟩
    · by_cases hhi : 143 < byteN s 1
      · rw [if_pos (.inr (.inr (.inl hhi)))]
        clear hS
        go_enter Tryz.func72, Tryz.ntmps72
        go_wp2
        go_ret
        exact ⟨rfl, rfl⟩
      · generalize hA : (if badSign s 4 128 143 then 0 else 4) = A
        have HA := Lib.hid hA
        clear hS hA
        go_enter Tryz.func72, Tryz.ntmps72
        go_wp2
        go_loop [7] (fun i => ∃ k : Nat, 2 ≤ k ∧ k ≤ 4 ∧ i = .int .i64 k ∧ ∀ j, 2 ≤ j → j < k → 128 ≤ byteN s j ∧ byteN s j ≤ 191) (fun i => 4 - (intOf i).toNat)
        case atStart => exact ⟨2, by omega, by omega, rfl, by omega⟩
        case round =>
          obtain ⟨k, hk2, hkn, rfl, hok⟩ := hrel
          have HOK := Lib.hid hok
          clear hok hb hb1
          by_cases hlt : k < 4
          · have hbk := byteN_at s k (by omega)
            have lk := byteN_lt s k
            have i1 : (k : Int) < (s.size : Int) := by omega
            by_cases c1 : byteN s k < 128
            · go_wp2
              go_ret
              refine ⟨ret_int ?_, rfl⟩
              rw [← HA.out, if_pos (by unfold badSign; have : k = 2 ∨ k = 3 := by omega
                                       rcases this with rfl | rfl <;> omega)]; rfl
            · by_cases c2 : 191 < byteN s k
              · go_wp2
                go_ret
                refine ⟨ret_int ?_, rfl⟩
                rw [← HA.out, if_pos (by unfold badSign; have : k = 2 ∨ k = 3 := by omega
                                         rcases this with rfl | rfl <;> omega)]; rfl
              · go_wp2
                go_round
                case rel =>
                  refine ⟨k + 1, by omega, by omega, by go_num, fun j h1 h2 => ?_⟩
                  rcases Nat.lt_or_ge j k with h | h
                  · exact HOK.out j h1 h
                  · obtain rfl : j = k := by omega
                    omega
                case measure => simp [intOf]; omega
          · obtain rfl : k = 4 := by omega
            go_wp2
            go_ret
            refine ⟨ret_int ?_, rfl⟩
            have g2 := HOK.out 2
            have g3 := HOK.out 3
            rw [← HA.out, if_neg (by unfold badSign; omega)]; rfl
end Go.Proofs.YtbmhlpojgiminaaGreatDoor.Val
