/- Layer 1: the walks of Sum and its closure. -/
import Derived.WalkKit
import Derived.RangeFuncBox
import Derived.LoopTactic
import Derived.OwnWalk
import Derived.Lib.Hide
import Derived.Laws.IdiomStrings
import Derived.Laws.BitsAllLaws
import Derived.Laws.Unary
import Derived.Test.YthmpdnndfgmmfaaProg
import Derived.Test.YthmpdnndfgmmfaaKit
import Derived.Test.YthmpdnndfgmmfaaWireSumMath
namespace Go.Proofs.Ythmpdnndfgmmfaa.Wire
open Go.RowKit
open Kit (ret_int)

theorem sum_end {c : Nat} (hc : c < 4294967296) : wrap64 (bits BinOp.xor IntKind.u32 IntKind.u32.max (c : Int)) = ((c ^^^ 4294967295 : Nat) : Int) := by
  have h1 : bits BinOp.xor IntKind.u32 IntKind.u32.max (c : Int) = ((4294967295 ^^^ c : Nat) : Int) := by
    have := u32_xor_nat 4294967295 c (by decide) hc
    rw [← this]; rfl
  have h2 := xor_lt hc (show 4294967295 < 4294967296 by decide)
  rw [h1, Nat.xor_comm]
  simp only [wrap64]
  omega

set_option maxRecDepth 100000 in
set_option maxHeartbeats 1000000 in
theorem turn_any (B c b : Nat) (hc : c < 4294967296) (hb : b < 256) (w : World) (hB : Boxed w B 68 (.int .u32 (c : Int))) :
    Calls Try.prog 32 #[.int .u8 (b : Int), .pointer (some ⟨B, 0, none⟩)] w fun e w' => e = .returned (.tuple #[]) ∧ Boxed w' B 68 (.int .u32 (trn c b : Int)) ∧ w.grownBy w' (some B) := by
  have hcell := hB.cell
  have hfz := hB.frozen
  have hx : bits BinOp.xor IntKind.u32 (c : Int) (b : Int) = ((c ^^^ b : Nat) : Int) := u32_xor_nat c b hc (by omega)
  have h0 := xor_lt hc (show b < 4294967296 by omega)
  have hB1 := hB.set (.int .u32 ((c ^^^ b : Nat) : Int))
  have hBel := grownBy_setCell' w B (.int .u32 ((c ^^^ b : Nat) : Int))
  go_enter Try.func32, Try.ntmps32
  go_wp2
  clear hcell hfz hx
  go_loopw [8] (fun i wr => ∃ k : Nat, i = .int .i64 k ∧ k ≤ 8 ∧ Boxed wr B 68 (.int .u32 (stps k (c ^^^ b) : Int)) ∧ w.grownBy wr (some B)) (fun i _ => 8 - (intOf i).toNat)
  case atStart => exact ⟨0, rfl, by omega, hB1, hBel⟩
  case round =>
    obtain ⟨k, rfl, hk, hBk, hBelk⟩ := hrel
    have hck := stps_lt h0 k
    by_cases hlt : k < 8
    · obtain ⟨d, hd⟩ : ∃ d, d = stps k (c ^^^ b) := ⟨_, rfl⟩
      rw [← hd] at hck hBk
      have hcell := hBk.cell
      have hfz := hBk.frozen
      have hHd := Lib.hid hd; clear hd
      have hst : stps (k + 1) (c ^^^ b) = stp d := by show stp (stps k (c ^^^ b)) = _; rw [← hHd.out]
      have HT := Lib.hid hst; clear hst
      by_cases hodd : d % 2 = 1
      · have ht : ((d : Int) % 2 == 1) = true := by rw [beq_iff_eq]; omega
        have hx : bits BinOp.xor IntKind.u32 ((d : Int) / 2) 3988292384 = ((stp d : Nat) : Int) := by
          have := u32_xor_nat (d / 2) 3988292384 (by omega) (by omega)
          unfold stp; rw [if_pos hodd]; simpa using this
        have HB := Lib.hid ((hBk.set (.int .u32 ((d : Int) / 2))).set (.int .u32 ((stp d : Nat) : Int)))
        have HE := Lib.hid ((hBelk.trans (grownBy_setCell' _ B (.int .u32 ((d : Int) / 2)))).trans (grownBy_setCell' _ B (.int .u32 ((stp d : Nat) : Int))))
        go_wp2
        go_roundw
        case rel => exact ⟨k + 1, by go_num, by omega, by rw [HT.out]; exact HB.out, HE.out⟩
        case measure => simp [intOf]; omega
      · have ht : ((d : Int) % 2 == 1) = false := by rw [beq_eq_false_iff_ne]; omega
        have hx : ((stp d : Nat) : Int) = (d : Int) / 2 := by unfold stp; rw [if_neg hodd]; omega
        have HX := Lib.hid hx; clear hx
        have HB := Lib.hid (hBk.set (.int .u32 ((d : Int) / 2)))
        have HE := Lib.hid (hBelk.trans (grownBy_setCell' _ B (.int .u32 ((d : Int) / 2))))
        go_wp2
        go_roundw
        case rel => exact ⟨k + 1, by go_num, by omega, by rw [HT.out, HX.out]; exact HB.out, HE.out⟩
        case measure => simp [intOf]; omega
    · go_wp2
      go_end0
      obtain rfl : k = 8 := by omega
      exact ⟨rfl, hBk, hBelk⟩

set_option maxRecDepth 100000 in
set_option maxHeartbeats 1000000 in
theorem sum_any (s : ByteArray) (hs : s.size ≤ 140737488351232) (w : World) :
    Calls Try.prog 25 #[.string s] w fun e w' => e = .returned (.int .i64 (sumN s.data.toList : Int)) ∧ Below w.heap.size w w' := by
  obtain ⟨W0, hW0⟩ : ∃ W0, W0 = w.alloc (.cells #[.int .u32 4294967295] 68) := ⟨_, rfl⟩
  have bC : Boxed W0 w.heap.size 68 (.int .u32 4294967295) := by rw [hW0]; exact Boxed.new w _ _
  have bB : Below w.heap.size w W0 := by rw [hW0]; exact (Below.refl _ w).alloc (Nat.le_refl _) _
  have hsz : W0.heap.size = w.heap.size + 1 := by rw [hW0]; simp
  obtain ⟨C, cap, hC, hcv⟩ := Kit.conv_bytes (P := Try.prog) W0 9 67 5 s Try.underlying9 Try.underlying67 Try.underlying5
  rw [hW0, World.size_alloc] at hcv
  have HW := Lib.hid hW0; clear hW0
  have HS := Lib.hid hsz; clear hsz
  go_enter Try.func25, Try.ntmps25
  go_wp2
  obtain ⟨W1, hW1⟩ : ∃ W1, W1 = ((w.alloc (.cells #[.int .u32 4294967295] 68)).alloc (.cells C 5 (C.size, C.size + 1))).drew := ⟨_, rfl⟩
  rw [← hW1]
  clear hcv
  have hC1 : W1.heap[w.heap.size + 1]? = some (.cells C 5 (C.size, C.size + 1)) := by
    have := World.alloc_heap_new (w.alloc (.cells #[.int .u32 4294967295] 68)) (.cells C 5 (C.size, C.size + 1))
    rw [World.size_alloc] at this
    rw [hW1]; exact this
  have hX1 : Boxed W1 w.heap.size 68 (.int .u32 4294967295) := by
    rw [hW1]; exact (Boxed.new w 68 (.int .u32 4294967295)).alloc _
  have hL1 : w.heap.size + 1 < W1.heap.size := (Array.getElem?_eq_some_iff.1 hC1).1
  have hB1 : Below w.heap.size w W1 := by
    rw [hW1]; exact (((Below.refl _ w).alloc (Nat.le_refl _) _).alloc (by simp) _).drew
  clear hW1 bC bB
  unfold Boxed at hX1
  have HC := Lib.hid hC1; clear hC1
  have HX := Lib.hid hX1; clear hX1
  go_loopw [11] (fun i wr => ∃ k : Nat, i = .int .i64 k ∧ k ≤ s.size ∧ Boxed wr w.heap.size 68 (.int .u32 (crc (s.data.toList.take k) 4294967295 : Int)) ∧ W1.grownBy wr (some w.heap.size)) (fun i _ => s.size - (intOf i).toNat)
  case atStart => exact ⟨0, rfl, by omega, HX.out, World.grownBy.refl _ _⟩
  case round =>
    obtain ⟨k, rfl, hk, hBk, hGk⟩ := hrel
    have hck : crc (s.data.toList.take k) 4294967295 < 4294967296 := crc_lt _ (by decide)
    by_cases hlt : k < s.size
    · have hcell : wr.cell? ⟨w.heap.size + 1, k, none⟩ = some (.int .u8 ((s[k]'hlt).toNat : Int)) := by
        have hb : wr.heap[w.heap.size + 1]? = some (.cells C 5 (C.size, C.size + 1)) := (hGk.block _ (by omega) (by intro e; simp at e)).trans HC.out
        simp [World.cell?, hb, hC k hlt]
      have hby : (s[k]'hlt).toNat < 256 := (s[k]'hlt).toNat_lt
      obtain ⟨c, hc⟩ : ∃ c, c = crc (s.data.toList.take k) 4294967295 := ⟨_, rfl⟩
      have hst : crc (s.data.toList.take (k + 1)) 4294967295 = trn c (s[k]'hlt).toNat := by
        rw [List.take_succ_eq_append_getElem (by simpa using hlt), crc_snoc, hc]; rfl
      rw [← hc] at hck hBk
      have HS' := Lib.hid hst; clear hst hc
      have HBk := Lib.hid hBk; clear hBk
      go_wp2_with (go_at_call 32; refine (turn_any w.heap.size c _ hck hby _ HBk.out).mono ?_; rintro e w' ⟨rfl, hBt, hGt⟩)
      go_roundw
      case rel => exact ⟨k + 1, by go_num, by omega, by rw [HS'.out]; exact hBt, hGk.trans hGt⟩
      case measure => simp [intOf]; omega
    · obtain rfl : k = s.size := by omega
      have hcell := hBk.cell
      have hfull : s.data.toList.take s.size = s.data.toList := List.take_of_length_le (by simp)
      rw [hfull] at hcell hck
      go_wp2
      go_ret
      refine ⟨ret_int (sum_end hck), hB1.trans (Kit.below_of_grownBy hGk (Nat.le_refl _) (by omega))⟩
end Go.Proofs.Ythmpdnndfgmmfaa.Wire
