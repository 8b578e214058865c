/- Layer 3: Encode. -/
import Derived.Test.YtbmhlpojgiminaaGreatDoorValBs
import Derived.Test.YtbmhlpojgiminaaGreatDoorWireText
namespace Go.Proofs.YtbmhlpojgiminaaGreatDoor.Val
open Go.RowKit
open Kit (ret_int ret_bool)
open Wire (numB)

set_option maxRecDepth 100000 in
set_option maxHeartbeats 1000000 in
theorem encode_flat (x : Vl) (hi : x.ints) (hs : x.s.size ≤ 10000) (h5 : x.k ≠ 5) (B : Nat) (w : World) (v : Value) (hr : Rep B w x v) :
    Calls Tryz.prog 31 #[v] w fun e w' => e = .returned (.string (bs (encF x))) ∧ Below w.heap.size w w' := by
  obtain ⟨lv, rfl, _⟩ := rep_of hr
  obtain ⟨i1, i2, i3, i4⟩ := hi
  have k5 : (x.k == 5) = false := by simpa using h5
  have hB1 := boxed w x.k x.n x.s lv
  have P := Lib.hid (Kit.box4_new w (.int .i64 x.k) (.int .i64 x.n) (.string x.s) lv 30)
  have l1 := Wire.numB_len x.k
  have l2 := Wire.numB_len x.n
  have l3 := Wire.numB_len (x.s.size : Int)
  have l4 : x.s.data.toList.length = x.s.size := data_len _
  have HN := Lib.hid (And.intro (fun W => Wire.num_any x.k i1 i2 W) (fun W => Wire.num_any x.n i3 i4 W))
  clear hr h5 i1 i2 i3 i4
  unfold encF
  by_cases h1 : x.k = 1 ∨ x.k = 3 ∨ x.k = 4
  · rw [if_pos h1]
    have hadd := add_bs (P := Tryz.prog) (numB x.k) (numB x.n) (by omega)
    have hk : ((x.k == 1) = true) ∨ ((x.k == 1) = false ∧ (x.k == 3) = true) ∨ ((x.k == 1) = false ∧ (x.k == 3) = false ∧ (x.k == 4) = true) := by
      rcases h1 with h | h | h <;> simp [h]
    clear h1
    rcases hk with k1 | ⟨k1, k3⟩ | ⟨k1, k3, k4⟩
    all_goals
      go_enter Tryz.func31, Tryz.ntmps31
      go_wp2_with fail
      refine (HN.out.1 _).mono ?_; rintro e w' ⟨rfl, hB⟩
      obtain ⟨p0, p1, p2, p3⟩ := P.out.below hB (by simp)
      go_wp2_with fail
      refine (HN.out.2 _).mono ?_; rintro e w2 ⟨rfl, hB2⟩
      go_wp2
      go_ret
      exact ⟨rfl, hB1.trans ((hB.mono hB1.size).trans (hB2.mono (by have := hB.size; have := hB1.size; omega)))⟩
  · rw [if_neg h1]
    have k1 : (x.k == 1) = false := by simp; omega
    have k3 : (x.k == 3) = false := by simp; omega
    have k4 : (x.k == 4) = false := by simp; omega
    by_cases h2 : x.k = 2
    · rw [if_pos h2]
      have k2 : (x.k == 2) = true := by simpa using h2
      have HT := Lib.hid (fun W => Wire.text_any x.s (by omega) W)
      rw [if_pos hs, textB_bs] at HT
      have hadd := add_bs (P := Tryz.prog) (numB x.k) (numB (x.s.size : Int) ++ x.s.data.toList) (by rw [List.length_append]; omega)
      clear h1 h2
      go_enter Tryz.func31, Tryz.ntmps31
      go_wp2_with fail
      refine (HN.out.1 _).mono ?_; rintro e w' ⟨rfl, hB⟩
      obtain ⟨p0, p1, p2, p3⟩ := P.out.below hB (by simp)
      go_wp2_with fail
      refine (HT.out _).mono ?_; rintro e w2 ⟨rfl, hB2⟩
      go_wp2
      go_ret
      exact ⟨rfl, hB1.trans ((hB.mono hB1.size).trans (hB2.mono (by have := hB.size; have := hB1.size; omega)))⟩
    · rw [if_neg h2]
      have k2 : (x.k == 2) = false := by simpa using h2
      clear h1 h2
      go_enter Tryz.func31, Tryz.ntmps31
      go_wp2_with fail
      refine (HN.out.1 _).mono ?_; rintro e w' ⟨rfl, hB⟩
      obtain ⟨p0, p1, p2, p3⟩ := P.out.below hB (by simp)
      go_wp2
      go_ret
      exact ⟨rfl, hB1.trans (hB.mono hB1.size)⟩

theorem encFs_len : ∀ (l : List Vl), (∀ y ∈ l, y.s.size ≤ 10000) → (l.flatMap encF).length ≤ l.length * 10020
  | [], _ => Nat.le_refl _
  | x :: r, h => by
    rw [List.flatMap_cons, List.length_append, List.length_cons]
    have := encF_len x (h x (by simp))
    have := encFs_len r (fun y hy => h y (by simp [hy]))
    omega
theorem take_flat (l : List Vl) (k : Nat) (x : Vl) (h : l[k]? = some x) : (l.take (k + 1)).flatMap encF = (l.take k).flatMap encF ++ encF x := by
  obtain ⟨hk, he⟩ := List.getElem?_eq_some_iff.1 h
  rw [List.take_succ_eq_append_getElem hk, List.flatMap_append, he]
  simp

/-- What Encode asks of a value's parts, for the model. -/
def Vl.enc (x : Vl) : Prop := x.ints ∧ x.s.size ≤ 10000 ∧ x.l.length ≤ 100 ∧ ∀ y ∈ x.l, y.ints ∧ y.s.size ≤ 10000 ∧ y.k ≠ 5

set_option maxRecDepth 100000 in
set_option maxHeartbeats 1000000 in
theorem encode_list (x : Vl) (he : x.enc) (h5 : x.k = 5) (B : Nat) (w : World) (v : Value) (hB : B ≤ w.heap.size) (hr : Rep B w x v) :
    Calls Tryz.prog 31 #[v] w fun e w' => e = .returned (.string (bs (encV x))) ∧ Below w.heap.size w w' := by
  obtain ⟨lv, rfl, hl⟩ := rep_of hr
  obtain ⟨⟨i1, i2, i3, i4⟩, i5, i6, i7⟩ := he
  have HN := Lib.hid (fun W => Wire.num_any x.k i1 i2 W)
  have k1 : (x.k == 1) = false := by rw [h5]; rfl
  have k2 : (x.k == 2) = false := by rw [h5]; rfl
  have k3 : (x.k == 3) = false := by rw [h5]; rfl
  have k4 : (x.k == 4) = false := by rw [h5]; rfl
  have k5 : (x.k == 5) = true := by rw [h5]; rfl
  unfold encV
  rw [if_pos h5]
  obtain ⟨a1, c1, rfl, z1⟩ := hl.len
  have HM := Lib.hid (fun W => Wire.num_any (x.l.length : Int) (by omega) (by omega) W)
  have hB1 := boxed w x.k x.n x.s (.slice a1 x.l.length c1)
  have P := Lib.hid (Kit.box4_new w (.int .i64 x.k) (.int .i64 x.n) (.string x.s) (.slice a1 x.l.length c1) 30)
  have l1 := Wire.numB_len x.k
  have l3 := Wire.numB_len (x.l.length : Int)
  have hadd := add_bs (P := Tryz.prog) (numB x.k) (numB (x.l.length : Int)) (by omega)
  have HL := Lib.hid (And.intro hl i7)
  generalize hll : x.l = l at *
  obtain ⟨h0, hh0⟩ : ∃ h0, h0 = numB x.k ++ numB (l.length : Int) := ⟨_, rfl⟩
  have l0 : h0.length ≤ 20 := by rw [hh0, List.length_append]; omega
  rw [← hh0] at hadd ⊢
  clear hr hl h5 i1 i2 i3 i4 i5 i7 hll hh0 z1
  go_enter Tryz.func31, Tryz.ntmps31
  go_wp2_with fail
  refine (HN.out _).mono ?_; rintro e w' ⟨rfl, hB2⟩
  obtain ⟨p0, p1, p2, p3⟩ := P.out.below hB2 (by simp)
  go_wp2_with fail
  refine (HM.out _).mono ?_; rintro e w2 ⟨rfl, hB3⟩
  obtain ⟨q0, q1, q2, q3⟩ := (P.out.below hB2 (by simp)).below hB3 (Kit.lt_of_cell p0)
  have hB4 : Below w.heap.size w w2 := hB1.trans ((hB2.mono hB1.size).trans (hB3.mono (by have := hB2.size; have := hB1.size; omega)))
  clear hB1 hB2 hB3 p0 p1 p2 p3
  go_wp2
  clear hadd
  go_loopw [3, 7, 44] (fun s i j wr => ∃ k : Nat, k ≤ l.length ∧ j = .int .i64 k ∧ s = .string (bs (h0 ++ (l.take k).flatMap encF)) ∧ Below w.heap.size w wr) (fun _ _ j _ => l.length - (intOf j).toNat)
  case atStart => exact ⟨0, by omega, rfl, by simp, hB4⟩
  case round =>
    obtain ⟨k, hk, rfl, rfl, hBw⟩ := hrel
    have hsz := hBw.size
    by_cases hlt : k < l.length
    · obtain ⟨x, hx⟩ : ∃ x, l[k]? = some x := ⟨_, List.getElem?_eq_getElem (by omega)⟩
      obtain ⟨b1, o1, d1, lw1, e1, hb1, ⟨p0, p1, p2, p3⟩, hl1⟩ := (HL.out.1.below hBw hB).at hx
      cases e1
      obtain ⟨a3, c3, rfl, z3⟩ := hl1.len
      obtain ⟨j1, j2, j3⟩ := HL.out.2 x (List.mem_of_getElem? hx)
      have HX := Lib.hid (encode_flat x j1 j2 j3 B (wr.alloc (.cells #[.int .i64 x.k, .int .i64 x.n, .string x.s, (.slice a3 x.l.length c3)] 30)) _ ((rep_in hl1).below (boxed wr x.k x.n x.s (.slice a3 x.l.length c3)) (by omega)))
      have hadd := add_bs (P := Tryz.prog) (h0 ++ (l.take k).flatMap encF) (encF x) (by
        have := encF_len x j2
        have h2 := encFs_len (l.take k) (fun y hy => (HL.out.2 y (List.mem_of_mem_take hy)).2.1)
        rw [List.length_take] at h2
        rw [List.length_append]; omega)
      have HT := Lib.hid (take_flat l k x hx)
      have i1 : (0 : Int) ≤ (k : Int) := by omega
      have i2 : (k : Int) < (l.length : Int) := by omega
      clear hl1 hx j1 j2 j3 z3
      go_wp2_with fail
      refine HX.out.mono ?_; rintro e w3 ⟨rfl, hB5⟩
      go_wp2
      go_roundw
      case rel =>
        refine ⟨k + 1, by omega, by go_num, ?_, hBw.trans (((boxed wr x.k x.n x.s (.slice a3 x.l.length c3)).mono hsz).trans (hB5.mono (by simp; omega)))⟩
        rw [HT.out]
      case measure => simp [intOf]; omega
    · have hkl : k = l.length := by omega
      subst hkl
      rw [List.take_length]
      go_wp2
      go_ret
      exact ⟨rfl, hBw⟩

theorem encode_any (x : Vl) (he : x.enc) (B : Nat) (w : World) (v : Value) (hB : B ≤ w.heap.size) (hr : Rep B w x v) :
    Calls Tryz.prog 31 #[v] w fun e w' => e = .returned (.string (bs (encV x))) ∧ Below w.heap.size w w' := by
  by_cases h5 : x.k = 5
  · exact encode_list x he h5 B w v hB hr
  · rw [show encV x = encF x from by unfold encV; rw [if_neg h5]]
    exact encode_flat x he.1 he.2.1 h5 B w v hr

/-- What is right can be laid. -/
theorem rightN_ints {k n : Int} (h : rightN k n = true) : (-9223372036854775808 ≤ k ∧ k ≤ 9223372036854775807 ∧ -9223372036854775808 ≤ n ∧ n ≤ 9223372036854775807) ∧ k ≠ 5 := by
  unfold rightN at h
  split at h
  · simp at h; omega
  · split at h
    · simp at h; omega
    · split at h
      · simp at h; omega
      · simp at h
theorem rightF_ok {x : Vl} (h : rightF x = true) : x.ints ∧ x.s.size ≤ 60 ∧ x.l = [] := by
  unfold rightF at h
  split at h
  · rename_i h2
    unfold rightT at h
    simp only [Bool.and_eq_true, decide_eq_true_eq, List.isEmpty_iff, beq_iff_eq] at h
    exact ⟨⟨by omega, by omega, by omega, by omega⟩, h.1.1.1.1, h.2⟩
  · simp only [Bool.and_eq_true, List.isEmpty_iff] at h
    have := rightN_ints h.1.1
    refine ⟨this.1, ?_, h.2⟩
    rw [← data_len, h.1.2]; simp
theorem rightV_enc {x : Vl} (h : rightV x = true) : x.enc := by
  unfold rightV at h
  split at h
  · rename_i h5
    simp only [Bool.and_eq_true, decide_eq_true_eq, List.isEmpty_iff, beq_iff_eq, Bool.not_eq_true', List.any_eq_false] at h
    refine ⟨⟨by omega, by omega, by omega, by omega⟩, by rw [← data_len, h.1.2]; simp, by omega, fun y hy => ?_⟩
    have hw := h.2 y hy
    unfold wrongIn at hw
    simp only [Bool.or_eq_true, beq_iff_eq, Bool.not_eq_true', not_or, Bool.not_eq_false] at hw
    have := rightF_ok hw.2
    exact ⟨this.1, by omega, hw.1⟩
  · have := rightF_ok h
    refine ⟨this.1, by omega, by rw [this.2.2]; simp, fun y hy => ?_⟩
    rw [this.2.2] at hy; cases hy
theorem Vl.enc.fits {x : Vl} (h : x.enc) : x.fits := ⟨by have := h.2.1; omega, fun y hy => by have := (h.2.2.2 y hy).2.1; omega⟩

set_option maxRecDepth 100000 in
/-- Encode. -/
theorem Encode_any (ae : Addr) (x : Vl) (hf : x.fits) (B : Nat) (w : World) (v : Value) (hB : B ≤ w.heap.size) (hE : Env ae w) (hr : Rep B w x v) :
    Calls Tryz.prog 7 #[v] w fun e w' => e = .returned (if rightV x then .tuple #[.string (bs (encV x)), .int .i64 0] else .tuple #[.string ⟨#[]⟩, .int .i64 30]) ∧ Below w.heap.size w w' := by
  obtain ⟨lv, rfl, hl⟩ := rep_of hr
  have hB1 := boxed w x.k x.n x.s lv
  have P := Lib.hid (Kit.box4_new w (.int .i64 x.k) (.int .i64 x.n) (.string x.s) lv 30)
  have HR := Lib.hid (right_any ae x hf B _ _ (by simp; omega) (hE.below hB1) (hr.below hB1 hB))
  cases hv : rightV x
  · rw [hv] at HR
    clear hr hl hE hv
    go_enter Tryz.func7, Tryz.ntmps7
    go_wp2_with fail
    refine HR.out.mono ?_; rintro e w' ⟨rfl, hB2⟩
    go_wp2
    go_ret2
    exact ⟨rfl, hB1.trans (hB2.mono hB1.size)⟩
  · rw [hv] at HR
    have HE := Lib.hid (fun W hW => encode_any x (rightV_enc hv) B W _ (by have := Below.size hW; omega) (hr.below (n := w.heap.size) hW hB))
    clear hr hl hE hv
    go_enter Tryz.func7, Tryz.ntmps7
    go_wp2_with fail
    refine HR.out.mono ?_; rintro e w' ⟨rfl, hB2⟩
    obtain ⟨p0, p1, p2, p3⟩ := P.out.below hB2 (by simp)
    have hB3 := hB1.trans (hB2.mono hB1.size)
    go_wp2_with fail
    refine (HE.out _ hB3).mono ?_; rintro e w2 ⟨rfl, hB4⟩
    go_wp2
    go_ret2
    exact ⟨rfl, hB3.trans (hB4.mono hB3.size)⟩
end Go.Proofs.YtbmhlpojgiminaaGreatDoor.Val
