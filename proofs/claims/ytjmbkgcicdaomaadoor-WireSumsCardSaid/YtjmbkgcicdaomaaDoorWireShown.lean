/- Layer 1: the walk of the laws' own helper: some bytes are known. -/
import Derived.Test.YtjmbkgcicdaomaaDoorWireText
import Derived.Test.YtjmbkgcicdaomaaDoorWireSum
import Derived.KernelRfl
namespace Go.Proofs.YtjmbkgcicdaomaaDoor.Wire
open Go.RowKit Go.Shelf
open Kit (ret_int)

theorem rd_a : readNumV ⟨#[97, 216, 4, 98]⟩ 1 = .tuple #[.int .i64 300, .int .i64 3, .int .i64 0] := by kernel_rfl
theorem rd_b : readNumV ⟨#[128, 0]⟩ 0 = .tuple #[.int .i64 0, .int .i64 0, .int .i64 10] := by kernel_rfl
theorem rd_c : readNumV ⟨#[128]⟩ 0 = .tuple #[.int .i64 0, .int .i64 0, .int .i64 10] := by kernel_rfl
theorem rd_d : readTextV ⟨#[4, 104, 105, 120]⟩ 0 = .tuple #[.string ⟨#[104, 105]⟩, .int .i64 3, .int .i64 0] := by kernel_rfl
theorem tx_a : textB ⟨#[104, 105]⟩ = ⟨#[4, 104, 105]⟩ := by kernel_rfl
theorem nm_a : numB 0 = [0] := by kernel_rfl
theorem nm_b : numB (-1) = [1] := by kernel_rfl
theorem nm_c : numB 300 = [216, 4] := by kernel_rfl
theorem sm_a : sumN [49, 50, 51, 52, 53, 54, 55, 56, 57] = 3421780262 := by kernel_rfl

/-- errWire is laid. -/
def Env (ae : Addr) (w : World) : Prop := 0 < w.heap.size ∧ w.cell? ⟨0, 0, none⟩ = some (evOf ae)
theorem Env.below {ae : Addr} {n : Nat} {w w' : World} (h : Env ae w) (hB : Below n w w') (hn : 0 < n) : Env ae w' :=
  ⟨Nat.lt_of_lt_of_le h.1 hB.size, (hB.cell (p := ⟨0, 0, none⟩) hn).trans h.2⟩

theorem rdA (ae : Addr) (w : World) (h : Env ae w) : Calls Tryd.prog 9 #[.string ⟨#[97, 216, 4, 98]⟩, .int .i64 1] w fun e w' => e = .returned (.tuple #[.int .i64 300, .int .i64 3, .int .i64 0]) ∧ Below w.heap.size w w' :=
  (readNum_any ⟨#[97, 216, 4, 98]⟩ (by decide) 1 (by decide) (by decide) ae w h.1 h.2).mono fun _ _ hh => by rw [rd_a] at hh; exact hh
theorem rdB (ae : Addr) (w : World) (h : Env ae w) : Calls Tryd.prog 9 #[.string ⟨#[128, 0]⟩, .int .i64 0] w fun e w' => e = .returned (.tuple #[.int .i64 0, .int .i64 0, .int .i64 10]) ∧ Below w.heap.size w w' :=
  (readNum_any ⟨#[128, 0]⟩ (by decide) 0 (by decide) (by decide) ae w h.1 h.2).mono fun _ _ hh => by rw [rd_b] at hh; exact hh
theorem rdC (ae : Addr) (w : World) (h : Env ae w) : Calls Tryd.prog 9 #[.string ⟨#[128]⟩, .int .i64 0] w fun e w' => e = .returned (.tuple #[.int .i64 0, .int .i64 0, .int .i64 10]) ∧ Below w.heap.size w w' :=
  (readNum_any ⟨#[128]⟩ (by decide) 0 (by decide) (by decide) ae w h.1 h.2).mono fun _ _ hh => by rw [rd_c] at hh; exact hh
theorem rdD (ae : Addr) (w : World) (h : Env ae w) : Calls Tryd.prog 12 #[.string ⟨#[4, 104, 105, 120]⟩, .int .i64 0] w fun e w' => e = .returned (.tuple #[.string ⟨#[104, 105]⟩, .int .i64 3, .int .i64 0]) ∧ Below w.heap.size w w' :=
  (readText_any ⟨#[4, 104, 105, 120]⟩ (by decide) 0 (by decide) (by decide) ae w h.1 h.2).mono fun _ _ hh => by rw [rd_d] at hh; exact hh
theorem txA (w : World) : Calls Tryd.prog 13 #[.string ⟨#[104, 105]⟩] w fun e w' => e = .returned (.tuple #[.string ⟨#[4, 104, 105]⟩, .int .i64 0]) ∧ Below w.heap.size w w' :=
  (text_any ⟨#[104, 105]⟩ (by decide) w).mono fun _ _ hh => by rw [if_pos (by decide), tx_a] at hh; exact hh
theorem txB (s : ByteArray) (hs : s.size = 10001) (w : World) : Calls Tryd.prog 13 #[.string s] w fun e w' => e = .returned (.tuple #[.string ⟨#[]⟩, .int .i64 10]) ∧ Below w.heap.size w w' :=
  (text_any s (by omega) w).mono fun _ _ hh => by rw [if_neg (by omega)] at hh; exact hh
theorem nmA (w : World) : Calls Tryd.prog 8 #[.int .i64 0] w fun e w' => e = .returned (.string ⟨#[0]⟩) ∧ Below w.heap.size w w' :=
  (num_any 0 (by decide) (by decide) w).mono fun _ _ hh => by rw [nm_a] at hh; exact hh
theorem nmB (w : World) : Calls Tryd.prog 8 #[.int .i64 (-1)] w fun e w' => e = .returned (.string ⟨#[1]⟩) ∧ Below w.heap.size w w' :=
  (num_any (-1) (by decide) (by decide) w).mono fun _ _ hh => by rw [nm_b] at hh; exact hh
theorem nmC (w : World) : Calls Tryd.prog 8 #[.int .i64 300] w fun e w' => e = .returned (.string ⟨#[216, 4]⟩) ∧ Below w.heap.size w w' :=
  (num_any 300 (by decide) (by decide) w).mono fun _ _ hh => by rw [nm_c] at hh; exact hh
theorem smA (w : World) : Calls Tryd.prog 10 #[.string ⟨#[49, 50, 51, 52, 53, 54, 55, 56, 57]⟩] w fun e w' => e = .returned (.int .i64 3421780262) ∧ Below w.heap.size w w' :=
  (sum_any ⟨#[49, 50, 51, 52, 53, 54, 55, 56, 57]⟩ (by decide) w).mono fun _ _ hh => by
    have e : ((⟨#[49, 50, 51, 52, 53, 54, 55, 56, 57]⟩ : ByteArray).data.toList) = [49, 50, 51, 52, 53, 54, 55, 56, 57] := rfl
    rw [e, sm_a] at hh; exact hh

/-- A new slice of noughts, and its text. -/
def noughts : ByteArray := strOfNums (List.replicate 10001 0)
theorem noughts_size : noughts.size = 10001 := by unfold noughts; rw [strOfNums_size, List.length_replicate]
theorem mk_noughts (w : World) : ∃ C : Array Value, (Instr.makeSlice 29 (.int .i64 10001) (.int .i64 10001)).run Tryd.prog w = .ok (.slice (some ⟨w.heap.size, 0, none⟩) 10001 10001) (w.alloc (.cells C 5)) ∧
    ∀ W : World, (∀ i : Nat, W.cell? ⟨w.heap.size, i, none⟩ = (w.alloc (.cells C 5)).cell? ⟨w.heap.size, i, none⟩) → (convert 29 9 (.slice (some ⟨w.heap.size, 0, none⟩) 10001 10001)).run Tryd.prog W = .ok (.string noughts) W := by
  obtain ⟨i0, hinf, hz0, hz1, hz2⟩ := info_parts info5
  refine ⟨madeCells #[.int .u8 0] 10001, ?_, fun W hW => ?_⟩
  · have h := run_make (P := Tryd.prog) w 29 5 i0 (.int .u8 0) Tryd.underlying29 hinf hz0 .i64 .i64 10001 10001 (by decide) (by decide) (by rw [hz2]; decide) (by decide)
    rw [hz1] at h
    exact h
  · refine run_convert_bytes_arg W 29 5 Tryd.underlying29 Tryd.underlying5 w.heap.size 0 10001 10001 (List.replicate 10001 0) (List.length_replicate ..) (fun i hi => ?_) 9 Tryd.underlying9
    rw [Nat.zero_add, hW i, Kit.cell_new w _ _ i (v := .int .u8 0) ?_]
    · rw [List.getD_eq_getElem?_getD, List.getElem?_replicate, if_pos hi]
      rfl
    · unfold madeCells
      rw [Array.getElem?_map, Array.getElem?_eq_getElem (by simpa using hi)]
      simp [Nat.mod_one]

set_option maxRecDepth 100000 in
set_option maxHeartbeats 2000000 in
theorem shown_any (ae : Addr) (w : World) (h : Env ae w) : Calls Tryd.prog 7 #[] w fun e w' => e = .returned (.bool true) ∧ Below w.heap.size w w' := by
  have hpos := h.1
  go_enter Tryd.func7, Tryd.ntmps7
  go_wp2_with fail
  refine (rdA ae _ h).mono ?_
  rintro e w1 ⟨rfl, hB1⟩
  have e1 := h.below hB1 hpos
  clear h
  go_wp2_with fail
  refine (rdB ae _ e1).mono ?_
  rintro e w2 ⟨rfl, hB2⟩
  have e2 := e1.below hB2 e1.1
  have b2 := hB1.trans (hB2.mono hB1.size)
  clear e1 hB1 hB2
  go_wp2_with fail
  refine (rdC ae _ e2).mono ?_
  rintro e w3 ⟨rfl, hB3⟩
  have e3 := e2.below hB3 e2.1
  have b3 := b2.trans (hB3.mono b2.size)
  clear e2 b2 hB3
  go_wp2_with fail
  refine (rdD ae _ e3).mono ?_
  rintro e w4 ⟨rfl, hB4⟩
  have b4 := b3.trans (hB4.mono b3.size)
  clear e3 b3 hB4
  go_wp2_with fail
  refine (txA _).mono ?_
  rintro e w5 ⟨rfl, hB5⟩
  have b5 := b4.trans (hB5.mono b4.size)
  clear b4 hB5
  obtain ⟨C, hmk, hcv⟩ := mk_noughts w5
  have hcv' := hcv (w5.alloc (.cells C 5)) (fun _ => rfl)
  clear hcv
  go_wp2_with fail
  refine (txB _ noughts_size _).mono ?_
  rintro e w6 ⟨rfl, hB6⟩
  have b6 := (b5.alloc b5.size _).trans (hB6.mono (by have := b5.size; simp; omega))
  clear b5 hB6 hmk hcv'
  go_wp2_with fail
  refine (nmA _).mono ?_
  rintro e w7 ⟨rfl, hB7⟩
  have b7 := b6.trans (hB7.mono b6.size)
  clear b6 hB7
  go_wp2_with fail
  refine (nmB _).mono ?_
  rintro e w8 ⟨rfl, hB8⟩
  have b8 := b7.trans (hB8.mono b7.size)
  clear b7 hB8
  go_wp2_with fail
  refine (nmC _).mono ?_
  rintro e w9 ⟨rfl, hB9⟩
  have b9 := b8.trans (hB9.mono b8.size)
  clear b8 hB9
  go_wp2_with fail
  refine (smA _).mono ?_
  rintro e w10 ⟨rfl, hB10⟩
  have b10 := b9.trans (hB10.mono b9.size)
  clear b9 hB10
  go_wp2
  go_ret
  exact ⟨rfl, b10⟩
end Go.Proofs.YtjmbkgcicdaomaaDoor.Wire
