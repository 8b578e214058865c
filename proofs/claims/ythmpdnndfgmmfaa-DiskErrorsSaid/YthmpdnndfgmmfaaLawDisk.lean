/- Layer 2's laws: what they share: pick, Full, Keep. -/
import Derived.Test.YthmpdnndfgmmfaaHeldOps
namespace Go.Proofs.Ythmpdnndfgmmfaa.Disk
open Go.RowKit

attribute [local go_sem] Oper.semAt_some

/-- Which of n things a raw number speaks of. -/
def pickN (c : Int) (n : Nat) : Nat := if c < 0 then (-(c + 1)).toNat % n else c.toNat % n
theorem pickN_lt (c : Int) {n : Nat} (h : 0 < n) : pickN c n < n := by unfold pickN; split <;> exact Nat.mod_lt _ h

set_option maxHeartbeats 1000000 in
theorem pick_any (c : Int) (h1 : -9223372036854775808 ≤ c) (h2 : c ≤ 9223372036854775807) (n : Nat) (hn : 0 < n) (hn2 : n ≤ 1000000) (w : World) :
    Calls Try.prog 17 #[.int .i64 c, .int .i64 (n : Int)] w fun e w' => e = .returned (.int .i64 (pickN c n : Int)) ∧ w = w' := by
  have hn0 : ((n : Int) == 0) = false := by simp; omega
  unfold pickN
  by_cases hc : c < 0
  · rw [if_pos hc]
    obtain ⟨m, hm⟩ : ∃ m : Nat, -(c + 1) = (m : Int) := ⟨(-(c + 1)).toNat, by omega⟩
    have e1 : IntKind.i64.wrap (c + 1) = c + 1 := by rw [IntKind.wrap_i64]; omega
    have e2 : IntKind.i64.wrap (-(c + 1)) = (m : Int) := by rw [IntKind.wrap_i64]; omega
    have e4 : (-(c + 1)).toNat = m := by omega
    rw [e4]
    have hlt : m % n < n := Nat.mod_lt _ hn
    have hM := Lib.hid hm
    clear hm e4
    go_enter Try.func17, Try.ntmps17
    go_wp2
    go_ret
    exact ⟨Kit.ret_int (by push_cast; rfl), rfl⟩
  · rw [if_neg hc]
    obtain ⟨m, rfl⟩ := Int.eq_ofNat_of_zero_le (Int.not_lt.1 hc)
    have hlt : m % n < n := Nat.mod_lt _ hn
    go_enter Try.func17, Try.ntmps17
    go_wp2
    go_ret
    exact ⟨Kit.ret_int (by push_cast; rfl), rfl⟩

/-- Of a raw text, a sector. -/
def fullB (s : ByteArray) : List UInt8 := (List.range 64).map fun i => if s.size = 0 then 0 else s.data.toList.getD (i % s.size) 0
theorem fullB_len (s : ByteArray) : (fullB s).length = 64 := by simp [fullB]

theorem fullB_at {s : ByteArray} (h : s.size ≠ 0) {k : Nat} (hk : k < 64) : (fullB s)[k]? = some (s.data.toList.getD (k % s.size) 0) := by
  unfold fullB
  rw [List.getElem?_map, List.getElem?_range hk]
  simp [h]

set_option maxRecDepth 100000 in
set_option maxHeartbeats 2000000 in
theorem full_any (s : ByteArray) (hs : s.size ≤ 9223372036854775807) (w : World) :
    Calls Try.prog 18 #[.string s] w fun e w' => e = .returned (.string (strB (fullB s))) ∧ Below w.heap.size w w' := by
  have hmk : ∀ W : World, (Instr.makeSlice 67 (.int .i64 64) (.int .i64 64)).run Try.prog W = .ok (.slice (some ⟨W.heap.size, 0, none⟩) 64 64) (W.alloc (.cells (madeCells #[.int .u8 0] 64) 5)) :=
    run_make_row' (P := Try.prog) 67 5 (.int .u8 0) 1 Try.underlying67 (by kernel_rfl) rfl .i64 .i64 64 (by omega) (by omega)
  have HR := Lib.hid (World.rowIs_made w (.int .u8 0) 64 5)
  have HB0 := Lib.hid ((Below.refl _ w).alloc (Nat.le_refl _) (.cells (madeCells #[.int .u8 0] 64) 5))
  have hfin : ∀ wr : World, wr.rowIs w.heap.size 5 64 (fun j => byteV ((fullB s).getD j 0)) → (convert 67 9 (.slice (some ⟨w.heap.size, 0, none⟩) 64 64)).run Try.prog wr = .ok (.string (strB (fullB s))) wr := fun wr hr =>
    conv_sec (fullB_len s) (fun j v hv => by
      have hj : j < 64 := by
        have := (List.getElem?_eq_some_iff.1 hv).1
        rw [secV_len, fullB_len] at this; exact this
      rw [Nat.zero_add, hr.cell hj, ← hv]
      unfold secV
      rw [List.getElem?_map]
      have hg : (fullB s)[j]? = some ((fullB s).getD j 0) := by simp [List.getD, List.getElem?_eq_getElem (show j < (fullB s).length by rw [fullB_len]; exact hj)]
      rw [hg]; rfl) Try.underlying67 Try.underlying5 Try.underlying9
  have HF := Lib.hid hfin
  clear hfin
  by_cases h0 : s.size = 0
  · have h0' : (s.size : Int) = 0 := by omega
    have hz : ∀ j, j < 64 → (.int .u8 0 : Value) = byteV ((fullB s).getD j 0) := fun j hj => by
      unfold fullB byteV
      simp [List.getD, h0, hj]
    have HZ := Lib.hid hz
    clear hz h0
    go_enter Try.func18, Try.ntmps18
    go_wp2
    go_loopw [4] (fun p wr => p = .int .i64 0 ∧ wr = w.alloc (.cells (madeCells #[.int .u8 0] 64) 5)) (fun _ _ => 0)
    case atStart => exact ⟨rfl, rfl⟩
    case round =>
      obtain ⟨rfl, rfl⟩ := hrel
      have hcv := HF.out _ (HR.out.congr fun j hj => HZ.out j hj)
      go_wp2
      go_ret
      exact ⟨rfl, HB0.out⟩
  · have hpos : (0 : Int) < s.size := by omega
    have H0 := Lib.hid h0
    clear h0
    go_enter Try.func18, Try.ntmps18
    go_wp2
    go_loopw [4] (fun p wr => ∃ k : Nat, p = .int .i64 k ∧ k ≤ 64 ∧ wr.rowIs w.heap.size 5 64 (fun j => if j < k then byteV ((fullB s).getD j 0) else .int .u8 0) ∧ Below w.heap.size w wr) (fun p _ => 64 - (intOf p).toNat)
    case atStart => exact ⟨0, rfl, by omega, HR.out.congr (fun j _ => by simp), HB0.out⟩
    case round =>
      obtain ⟨k, rfl, hk, hrow, hB⟩ := hrel
      by_cases hlt : k < 64
      · obtain ⟨q, hq, hq2⟩ : ∃ q : Nat, (k : Int) % (s.size : Int) = (q : Int) ∧ q = k % s.size := ⟨k % s.size, by push_cast; rfl, rfl⟩
        have hqs : q < s.size := by rw [hq2]; exact Nat.mod_lt _ (by omega)
        have hc := hrow.cell hlt
        have hf := hrow.frozen k
        have hne : ((s.size : Int) == 0) = false := by rw [beq_eq_false_iff_ne]; omega
        have hv : (fullB s).getD k 0 = s[q]'hqs := by
          have := fullB_at H0.out hlt
          rw [List.getD, this, ← hq2]
          simp [List.getD, List.getElem?_eq_getElem (show q < s.data.toList.length by simpa using hqs)]
          rfl
        have HV := Lib.hid hv
        have HROW := Lib.hid hrow
        have HBB := Lib.hid hB
        clear hv hrow hB hq2
        go_wp2
        go_roundw
        case rel =>
          refine ⟨k + 1, by go_num, by omega, ?_, HBB.out.setCell (by exact Nat.le_refl _) _⟩
          refine (HROW.out.set k _).congr fun j hj => ?_
          by_cases e : j = k
          · subst e
            rw [if_pos rfl, if_pos (by omega), HV.out]; rfl
          · rw [if_neg e]
            by_cases e2 : j < k
            · rw [if_pos e2, if_pos (by omega)]
            · rw [if_neg e2, if_neg (by omega)]
        case measure => simp [intOf]; omega
      · obtain rfl : k = 64 := by omega
        have hcv := HF.out _ (hrow.congr fun j hj => if_pos hj)
        clear hrow
        go_wp2
        go_ret
        exact ⟨rfl, hB⟩
end Go.Proofs.Ythmpdnndfgmmfaa.Disk
