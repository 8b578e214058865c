/- Texts, rune by rune: what may be of a raw one. -/
import Derived.Test.YtbmhlpojgiminaaGreatDoorMK
namespace Go.Proofs.YtbmhlpojgiminaaGreatDoor.Val
open Go.RowKit

/-- Of a raw text, one that may be: from a place on. -/
def vtF (s : ByteArray) : Nat → List UInt8 → Nat → List UInt8
  | 0, out, _ => out
  | g + 1, out, i =>
    if i < s.size ∧ out.length < 17 then
      (if isTextB (s.extract i (i + max (signB (s.extract i s.size)) 1)) then vtF s g (out ++ (s.extract i (i + max (signB (s.extract i s.size)) 1)).data.toList) (i + max (signB (s.extract i s.size)) 1)
       else vtF s g out (i + max (signB (s.extract i s.size)) 1))
    else out
/-- Of a raw text, one that may be. -/
def valText (s : ByteArray) : List UInt8 := vtF s (s.size + 1) [] 0

theorem signB_four (s : ByteArray) : signB s ≤ 4 := by
  unfold signB
  split
  · omega
  · split
    · omega
    · rw [decode_bytes]
      unfold Lib.decodeN
      repeat' split
      all_goals (dsimp only; omega)
theorem piece_step (s : ByteArray) (i : Nat) (h : i < s.size) : i + max (signB (s.extract i s.size)) 1 ≤ s.size := by
  have := signB_le (s.extract i s.size)
  rw [Lib.ext_size] at this
  omega
theorem vtF_ok (s : ByteArray) : ∀ (g : Nat) (out : List UInt8) (i : Nat), (∃ cs, OkT out cs) → out.length ≤ 20 → (∃ cs, OkT (vtF s g out i) cs) ∧ (vtF s g out i).length ≤ 20
  | 0, out, i, h, hl => ⟨h, hl⟩
  | g + 1, out, i, h, hl => by
    rw [vtF]
    split
    · rename_i hc
      split
      · rename_i ht
        obtain ⟨cs, h1⟩ := h
        obtain ⟨ds, h2⟩ := (isTextB_ok _).1 ht
        refine vtF_ok s g _ _ ⟨_, h1.append h2⟩ ?_
        have h4 := signB_four (s.extract i s.size)
        rw [List.length_append, data_len, ByteArray.size_extract]
        omega
      · exact vtF_ok s g out _ h hl
    · exact ⟨h, hl⟩
theorem valText_ok (s : ByteArray) : (∃ cs, OkT (valText s) cs) ∧ (valText s).length ≤ 20 := vtF_ok s _ [] 0 ⟨[], .nil⟩ (by simp)
theorem valText_right (s : ByteArray) : rightT (bs (valText s)) = true := by
  obtain ⟨⟨cs, h⟩, hl⟩ := valText_ok s
  exact h.right (by omega)

set_option maxRecDepth 100000 in
set_option maxHeartbeats 1000000 in
theorem valText_any (s : ByteArray) (hs : s.size ≤ 140737488351232) (w : World) :
    Calls Tryz.prog 58 #[.string s] w fun e w' => e = .returned (.string (bs (valText s))) ∧ w = w' := by
  obtain ⟨ANS, hANS⟩ : ∃ ANS, valText s = ANS := ⟨_, rfl⟩
  rw [hANS]
  go_enter Tryz.func58, Tryz.ntmps58
  go_wp2
  go_loopg [3, 4, 5, 6] (s.size + 1) (fun gk o i n t wx => w = wx ∧ ∃ (out : List UInt8) (k : Nat), o = .string (bs out) ∧ i = .int .i64 k ∧ k ≤ s.size ∧ s.size < k + gk ∧ out.length ≤ 20 ∧ vtF s gk out k = ANS)
  case atStart => exact ⟨rfl, [], 0, rfl, rfl, by omega, by omega, by simp, hANS⟩
  case round =>
    obtain ⟨rfl, out, k, rfl, rfl, hk, hg, hl, hA⟩ := hrel
    obtain ⟨g', rfl⟩ : ∃ g', gk = g' + 1 := ⟨gk - 1, by omega⟩
    rw [vtF] at hA
    clear hANS
    by_cases hlt : k < s.size
    · have i1 : (k : Int) < (s.size : Int) := by omega
      by_cases h17 : out.length < 17
      · rw [if_pos ⟨hlt, h17⟩] at hA
        have i2 : (out.length : Int) < 17 := by omega
        have hsl : ∀ W, (Instr.slice 9 (.string s) (some (.int .i64 (k : Int))) none none).run Tryz.prog W = .ok (.string (s.extract k s.size)) W := fun W => by
          rw [run_slice_string_from_if W 9 s .i64 (k : Int) Tryz.underlying9, if_pos ⟨by omega, by omega⟩, Int.toNat_natCast]
        have hsz := Lib.ext_size s k
        have HS := Lib.hid (sign_any (s.extract k s.size) (by omega) w)
        unfold SignOf at HS
        have hst := piece_step s k hlt
        have h4 := signB_four (s.extract k s.size)
        clear hsz
        generalize signB (s.extract k s.size) = N at *
        have hmax : max (N : Int) 1 = ((max N 1 : Nat) : Int) := by omega
        have hm1 : 1 ≤ max N 1 := by omega
        have hm4 : max N 1 ≤ 4 := by omega
        generalize max N 1 = M at *
        have hsl2 : ∀ W, (Instr.slice 9 (.string s) (some (.int .i64 (k : Int))) (some (.int .i64 ((k : Int) + (M : Int)))) none).run Tryz.prog W = .ok (.string (s.extract k (k + M))) W := fun W => by
          have e := run_slice_string (P := Tryz.prog) (w := W) 9 s .i64 .i64 (k : Int) ((k : Int) + (M : Int)) Tryz.underlying9 (by omega) (by omega) (by omega)
          rw [show ((k : Int) + (M : Int)).toNat = k + M from by omega, Int.toNat_natCast] at e
          exact e
        have hps : (s.extract k (k + M)).size = M := by rw [ByteArray.size_extract]; omega
        have HT := Lib.hid (isText_any (s.extract k (k + M)) (by omega) w)
        cases ht : isTextB (s.extract k (k + M))
        · rw [ht] at hA HT
          simp only [Bool.false_eq_true, if_false] at hA
          have HA := Lib.hid hA
          clear hA ht hps
          go_wp2_with (first | (go_at_call 72; refine HS.out.mono ?_; rintro e w' ⟨rfl, rfl⟩) | (go_at_call 40; refine HT.out.mono ?_; rintro e w' ⟨rfl, rfl⟩))
          go_roundg g'
          case rel => exact ⟨rfl, out, k + M, rfl, by go_num, by omega, by omega, hl, HA.out⟩
          case measure => omega
        · rw [ht] at hA HT
          simp only [if_true] at hA
          have hpl : (s.extract k (k + M)).data.toList.length = M := by rw [data_len, hps]
          have hadd := add_bs (P := Tryz.prog) out (s.extract k (k + M)).data.toList (by omega)
          rw [bs_data] at hadd
          generalize (s.extract k (k + M)).data.toList = P at *
          have HA := Lib.hid hA
          have HP := Lib.hid hpl
          clear hA ht hps hpl
          go_wp2_with (first | (go_at_call 72; refine HS.out.mono ?_; rintro e w' ⟨rfl, rfl⟩) | (go_at_call 40; refine HT.out.mono ?_; rintro e w' ⟨rfl, rfl⟩))
          go_roundg g'
          case rel => exact ⟨rfl, _, k + M, rfl, by go_num, by omega, by omega, by rw [List.length_append, HP.out]; omega, HA.out⟩
          case measure => omega
      · rw [if_neg (by omega)] at hA
        have HA := Lib.hid hA
        have i2 : ¬ (out.length : Int) < 17 := by omega
        clear hA
        go_wp2
        go_ret
        exact ⟨by rw [HA.out]; rfl, rfl⟩
    · rw [if_neg (by omega)] at hA
      have HA := Lib.hid hA
      have i1 : ¬ (k : Int) < (s.size : Int) := by omega
      clear hA
      go_wp2
      go_ret
      exact ⟨by rw [HA.out]; rfl, rfl⟩
end Go.Proofs.YtbmhlpojgiminaaGreatDoor.Val
