/- Layer 2's laws: awake: two sectors, three writes, power losses: true. -/
import Derived.Test.YthmpdnndfgmmfaaLawAs
namespace Go.Proofs.Ythmpdnndfgmmfaa.Disk
open Go.RowKit

attribute [local go_sem] Oper.semAt_some

theorem crashE_good (D : Dk) (xs : List Int) (n : Nat) (hn : D.pend.length = n) (h : okKeep n xs = true) : D.crashE xs = (D.crash xs, 0) := by
  unfold Dk.crashE; rw [hn, h]; rfl
theorem crashE_bad (D : Dk) (xs : List Int) (n : Nat) (hn : D.pend.length = n) (h : okKeep n xs = false) : D.crashE xs = (D, 21) := by
  unfold Dk.crashE; rw [hn, h]; rfl
theorem syncE_good (D : Dk) (h : D.powered = true) : D.syncE = (D.sync, 0) := by unfold Dk.syncE; rw [h]; rfl
theorem syncE_off (D : Dk) (h : D.powered = false) : D.syncE = (D, 22) := by unfold Dk.syncE; rw [h]; rfl
theorem write_far (D : Dk) (a : Int) (s : ByteArray) (h : ¬ (0 ≤ a ∧ a < D.n ∧ s.size = 64)) : D.write a s = (D, 20) := by
  unfold Dk.write okWrite; rw [decide_eq_false h]; rfl
theorem write_dark (D : Dk) (a : Int) (s : ByteArray) (h : 0 ≤ a ∧ a < D.n ∧ s.size = 64) (hp : D.powered = false) : D.write a s = (D, 22) := by
  unfold Dk.write okWrite; rw [decide_eq_true h, hp]; rfl
theorem strB_size (t : List UInt8) : (strB t).size = t.length := by show t.toArray.size = _; simp
theorem fullB_none : fullB ⟨#[]⟩ = zeros := by
  unfold fullB zeros
  decide

set_option maxRecDepth 100000 in
set_option maxHeartbeats 8000000 in
theorem awake_any (w : World) : Calls Try.prog 11 #[] w fun e w' => e = .returned (.bool true) ∧ Below w.heap.size w w' := by
  obtain ⟨fa, hfa⟩ : ∃ t, t = fullB ⟨#[97]⟩ := ⟨_, rfl⟩
  obtain ⟨fb, hfb⟩ : ∃ t, t = fullB ⟨#[98]⟩ := ⟨_, rfl⟩
  obtain ⟨fc, hfc⟩ : ∃ t, t = fullB ⟨#[99]⟩ := ⟨_, rfl⟩
  obtain ⟨fx, hfx⟩ : ∃ t, t = fullB ⟨#[120]⟩ := ⟨_, rfl⟩
  have la : fa.length = 64 := by rw [hfa, fullB_len]
  have lb : fb.length = 64 := by rw [hfb, fullB_len]
  have lc : fc.length = 64 := by rw [hfc, fullB_len]
  have lx : fx.length = 64 := by rw [hfx, fullB_len]
  have LA := Lib.hid (And.intro la (And.intro lb (And.intro lc lx)))
  clear la lb lc lx
  have full_a : ∀ (w : World) (A : Nat → Prop) (L : List (Nat × Dk)), Held w A L → Calls Try.prog 18 #[.string ⟨#[97]⟩] w fun e w' => e = .returned (.string (strB fa)) ∧ Then w w' A L := fun w A L h => by rw [hfa]; exact full_held h _ (by decide)
  have full_b : ∀ (w : World) (A : Nat → Prop) (L : List (Nat × Dk)), Held w A L → Calls Try.prog 18 #[.string ⟨#[98]⟩] w fun e w' => e = .returned (.string (strB fb)) ∧ Then w w' A L := fun w A L h => by rw [hfb]; exact full_held h _ (by decide)
  have full_c : ∀ (w : World) (A : Nat → Prop) (L : List (Nat × Dk)), Held w A L → Calls Try.prog 18 #[.string ⟨#[99]⟩] w fun e w' => e = .returned (.string (strB fc)) ∧ Then w w' A L := fun w A L h => by rw [hfc]; exact full_held h _ (by decide)
  have full_x : ∀ (w : World) (A : Nat → Prop) (L : List (Nat × Dk)), Held w A L → Calls Try.prog 18 #[.string ⟨#[120]⟩] w fun e w' => e = .returned (.string (strB fx)) ∧ Then w w' A L := fun w A L h => by rw [hfx]; exact full_held h _ (by decide)
  have full_0 : ∀ (w : World) (A : Nat → Prop) (L : List (Nat × Dk)), Held w A L → Calls Try.prog 18 #[.string ⟨#[]⟩] w fun e w' => e = .returned (.string (strB zeros)) ∧ Then w w' A L := fun w A L h => by rw [← fullB_none]; exact full_held h _ (by decide)
  have FA := Lib.hid full_a
  have FB := Lib.hid full_b
  have FC := Lib.hid full_c
  have FX := Lib.hid full_x
  have F0 := Lib.hid full_0
  clear full_a full_b full_c full_x full_0 hfa hfb hfc hfx
  have H0 : Hid (Held w (fun k => k < w.heap.size) []) := Lib.hid (Held.nil w _ fun _ h => h)
  go_enter Try.func11, Try.ntmps11
  go_wp2_with fail
  refine (new_held H0.out 2 (by decide) (by decide)).mono ?_
  rintro e w1 ⟨p, rfl, _, hT⟩
  have T1 := Lib.hid (show Then w w1 _ [(p, Dk.new 2)] from hT); clear hT
  go_wp2_with fail
  refine (new_held T1.out.1 2 (by decide) (by decide)).mono ?_
  rintro e w2 ⟨q, rfl, _, hT⟩
  have T2 := Lib.hid (show Then w w2 _ [(p, Dk.new 2), (q, Dk.new 2)] from T1.out.trans hT); clear hT T1 H0
  have hsz0 := T2.out.2.size
  have hcp : (w2.alloc (.cells #[.pointer (some ⟨p, 0, none⟩), .pointer (some ⟨q, 0, none⟩)] 25)).cell? ⟨w2.heap.size, 0, none⟩ = some (.pointer (some ⟨p, 0, none⟩)) := Kit.cell_new w2 _ _ 0 rfl
  have hcq : (w2.alloc (.cells #[.pointer (some ⟨p, 0, none⟩), .pointer (some ⟨q, 0, none⟩)] 25)).cell? ⟨w2.heap.size, 1, none⟩ = some (.pointer (some ⟨q, 0, none⟩)) := Kit.cell_new w2 _ _ 1 rfl
  obtain ⟨W, hW⟩ : ∃ W, W = w2.alloc (.cells #[.pointer (some ⟨p, 0, none⟩), .pointer (some ⟨q, 0, none⟩)] 25) := ⟨_, rfl⟩
  have hbW : Below w2.heap.size w2 W := by rw [hW]; exact (Below.refl _ _).alloc (Nat.le_refl _) _
  have hwd := T2.out.1.widen hbW
  have hsW : w2.heap.size < W.heap.size := by rw [hW]; simp
  obtain ⟨A, hA⟩ : ∃ A : Nat → Prop, A = fun k => k < w.heap.size ∨ (w2.heap.size ≤ k ∧ k < W.heap.size) := ⟨_, rfl⟩
  have hAW : A w2.heap.size := by rw [hA]; exact .inr ⟨Nat.le_refl _, hsW⟩
  have hAold : ∀ k, k < w.heap.size → A k := fun k hk => by rw [hA]; exact .inl hk
  rw [← hA] at hwd
  rw [← hW] at hcp hcq
  have hB0 : Below w.heap.size w W := by
    have := (T2.out.2.below (B := w.heap.size) (fun k hk => by omega) (Nat.le_refl _)).trans (hbW.mono hsz0)
    exact this
  have TW := Lib.hid (show Then W W A [(p, Dk.new 2), (q, Dk.new 2)] from ⟨hwd, Moved.refl _ _⟩)
  have HB0 := Lib.hid hB0
  have HAW := Lib.hid (And.intro hAW hAold)
  clear hwd hB0 hbW hA hAW hAold hsz0 hsW T2
  go_upto_region 4 with fail
  rw [← hW]
  clear hW
  have HCP := Lib.hid (And.intro hcp hcq)
  clear hcp hcq
  go_loopw [36] (fun i wr => (i = .int .i64 0 ∧ Then W wr A [(p, Dk.new 2), (q, Dk.new 2)]) ∨
    (i = .int .i64 1 ∧ Then W wr A [(p, ⟨2, fun _ => zeros, [(0, fa), (1, fb), (0, fc)], false, 0⟩), (q, Dk.new 2)]) ∨
    (i = .int .i64 2 ∧ Then W wr A [(p, ⟨2, fun _ => zeros, [(0, fa), (1, fb), (0, fc)], false, 0⟩), (q, ⟨2, fun _ => zeros, [(0, fa), (1, fb), (0, fc)], false, 0⟩)])) (fun i _ => 2 - (intOf i).toNat)
  case atStart => exact .inl ⟨rfl, TW.out⟩
  case round =>
    rcases hrel with ⟨rfl, hT⟩ | ⟨rfl, hT⟩ | ⟨rfl, hT⟩
    ·
      have HT := Lib.hid hT; clear hT
      have hc := HT.out.cell (p := ⟨w2.heap.size, 0, none⟩) HAW.out.1 HCP.out.1
      go_wp2_with fail
      refine (FA.out _ _ _ HT.out.1).mono ?_
      rintro e v1 ⟨rfl, hT⟩
      have T1 := Lib.hid (HT.out.trans hT); clear hT
      go_wp2_with fail
      refine (write_as T1.out.1 0 rfl (by first | decide | simp) (by decide) (write_good 2 (fun _ => zeros) [] 0 (by decide) fa LA.out.1) (L' := [(p, ⟨2, fun _ => zeros, [(0, fa)], false, 0⟩), (q, Dk.new 2)]) rfl).mono ?_
      rintro e v2 ⟨rfl, hT⟩
      have T2 := Lib.hid (T1.out.trans hT); clear hT T1
      go_wp2_with fail
      refine (FB.out _ _ _ T2.out.1).mono ?_
      rintro e v3 ⟨rfl, hT⟩
      have T3 := Lib.hid (T2.out.trans hT); clear hT T2
      go_wp2_with fail
      refine (write_as T3.out.1 0 rfl (by first | decide | simp) (by decide) (write_good 2 (fun _ => zeros) [(0, fa)] 1 (by decide) fb LA.out.2.1) (L' := [(p, ⟨2, fun _ => zeros, [(0, fa), (1, fb)], false, 0⟩), (q, Dk.new 2)]) rfl).mono ?_
      rintro e v4 ⟨rfl, hT⟩
      have T4 := Lib.hid (T3.out.trans hT); clear hT T3
      go_wp2_with fail
      refine (FC.out _ _ _ T4.out.1).mono ?_
      rintro e v5 ⟨rfl, hT⟩
      have T5 := Lib.hid (T4.out.trans hT); clear hT T4
      go_wp2_with fail
      refine (write_as T5.out.1 0 rfl (by first | decide | simp) (by decide) (write_good 2 (fun _ => zeros) [(0, fa), (1, fb)] 0 (by decide) fc LA.out.2.2.1) (L' := [(p, ⟨2, fun _ => zeros, [(0, fa), (1, fb), (0, fc)], false, 0⟩), (q, Dk.new 2)]) rfl).mono ?_
      rintro e v6 ⟨rfl, hT⟩
      have T6 := Lib.hid (T5.out.trans hT); clear hT T5
      go_wp2
      go_roundw
      case rel => exact .inr (.inl ⟨rfl, T6.out⟩)
      case measure => decide
    ·
      have HT := Lib.hid hT; clear hT
      have hc := HT.out.cell (p := ⟨w2.heap.size, 1, none⟩) HAW.out.1 HCP.out.2
      go_wp2_with fail
      refine (FA.out _ _ _ HT.out.1).mono ?_
      rintro e v1 ⟨rfl, hT⟩
      have T1 := Lib.hid (HT.out.trans hT); clear hT
      go_wp2_with fail
      refine (write_as T1.out.1 1 rfl (by first | decide | simp) (by decide) (write_good 2 (fun _ => zeros) [] 0 (by decide) fa LA.out.1) (L' := [(p, ⟨2, fun _ => zeros, [(0, fa), (1, fb), (0, fc)], false, 0⟩), (q, ⟨2, fun _ => zeros, [(0, fa)], false, 0⟩)]) rfl).mono ?_
      rintro e v2 ⟨rfl, hT⟩
      have T2 := Lib.hid (T1.out.trans hT); clear hT T1
      go_wp2_with fail
      refine (FB.out _ _ _ T2.out.1).mono ?_
      rintro e v3 ⟨rfl, hT⟩
      have T3 := Lib.hid (T2.out.trans hT); clear hT T2
      go_wp2_with fail
      refine (write_as T3.out.1 1 rfl (by first | decide | simp) (by decide) (write_good 2 (fun _ => zeros) [(0, fa)] 1 (by decide) fb LA.out.2.1) (L' := [(p, ⟨2, fun _ => zeros, [(0, fa), (1, fb), (0, fc)], false, 0⟩), (q, ⟨2, fun _ => zeros, [(0, fa), (1, fb)], false, 0⟩)]) rfl).mono ?_
      rintro e v4 ⟨rfl, hT⟩
      have T4 := Lib.hid (T3.out.trans hT); clear hT T3
      go_wp2_with fail
      refine (FC.out _ _ _ T4.out.1).mono ?_
      rintro e v5 ⟨rfl, hT⟩
      have T5 := Lib.hid (T4.out.trans hT); clear hT T4
      go_wp2_with fail
      refine (write_as T5.out.1 1 rfl (by first | decide | simp) (by decide) (write_good 2 (fun _ => zeros) [(0, fa), (1, fb)] 0 (by decide) fc LA.out.2.2.1) (L' := [(p, ⟨2, fun _ => zeros, [(0, fa), (1, fb), (0, fc)], false, 0⟩), (q, ⟨2, fun _ => zeros, [(0, fa), (1, fb), (0, fc)], false, 0⟩)]) rfl).mono ?_
      rintro e v6 ⟨rfl, hT⟩
      have T6 := Lib.hid (T5.out.trans hT); clear hT T5
      go_wp2
      go_roundw
      case rel => exact .inr (.inr ⟨rfl, T6.out⟩)
      case measure => decide
    · have HT := Lib.hid hT; clear hT
      obtain ⟨P, hP⟩ : ∃ P : Dk, P = ⟨2, fun _ => zeros, [(0, fa), (1, fb), (0, fc)], false, 0⟩ := ⟨_, rfl⟩
      have hPl : P.pend.length = 3 := by rw [hP]; rfl
      have hP0 : P.there 0 = fc := by rw [hP]; rfl
      have hPn : P.n = 2 := by rw [hP]
      have hk : okKeep 3 [3] = false := by decide
      have hk2 : okKeep 3 [2, 1] = true := by decide
      have hk3 : okKeep 3 [2, 0] = true := by decide
      have h4 : (P.crash [2, 1]).there 0 = fc := by rw [hP]; rfl
      have h5 : (P.crash [2, 0]).there 0 = fa := by rw [hP]; rfl
      have h6 : (P.crash [2, 0]).there 1 = zeros := by rw [hP]; rfl
      have hP4n : (P.crash [2, 1]).n = 2 := hPn
      have hQ4n : (P.crash [2, 0]).n = 2 := hPn
      obtain ⟨P4, hP4⟩ : ∃ X, X = P.crash [2, 1] := ⟨_, rfl⟩
      obtain ⟨Q4, hQ4⟩ : ∃ X, X = P.crash [2, 0] := ⟨_, rfl⟩
      have hc4 : P4.cut = false := by rw [hP4]; rfl
      have hQp : Q4.pend = [] := by rw [hQ4]; rfl
      have HTP := Lib.hid (show Then W wr A [(p, P), (q, P)] from by rw [hP]; exact HT.out)
      rw [← hP4] at h4 hP4n
      rw [← hQ4] at h5 h6 hQ4n
      have e0 := read_good P 0 (by omega) hP0
      have e1 := crashE_bad P [3] 3 hPl hk
      have e2 := crashE_good P [2, 1] 3 hPl hk2
      have e3 := crashE_good P [2, 0] 3 hPl hk3
      rw [← hP4] at e2
      rw [← hQ4] at e3
      have e4 := read_good P4 0 (by omega) h4
      have e5 := read_good Q4 0 (by omega) h5
      have e6 := read_good Q4 1 (by omega) h6
      have e7 : Q4.rotR 1 2 3 = (Q4.rot 1 2 3, 0) := by
        have : Q4.rotE 1 2 3 = 0 := by unfold Dk.rotE; rw [hQ4n]; rfl
        unfold Dk.rotR; rw [if_pos this]; rfl
      obtain ⟨Q5, hQ5⟩ : ∃ X, X = Q4.rot 1 2 3 := ⟨_, rfl⟩
      have h8 : Q5.there 1 = turnS zeros 2 3 := by
        have hk1 : Q4.kept 1 = zeros := by rw [there_none Q4 1 (by rw [hQp]; simp)] at h6; exact h6
        rw [hQ5, there_none _ 1 (by show ∀ x ∈ Q4.pend, _; rw [hQp]; simp)]
        show (if (1 : Nat) = 1 then turnS (Q4.kept 1) 2 3 else Q4.kept 1) = turnS zeros 2 3
        rw [if_pos rfl, hk1]
      have hQ5n : Q5.n = 2 := by rw [hQ5]; exact hQ4n
      have e8 := read_good Q5 1 (by omega) h8
      rw [← hQ5] at e7
      have s8 : (strB (turnS zeros 2 3)).size = 64 := by rw [strB_size, turnS_len]; decide
      have z8 : strB (turnS zeros 2 3) = ⟨(turnS zeros 2 3).toArray⟩ := rfl
      have e9 := write_far P4 2 (strB fa) (by rw [hP4n]; omega)
      have e10 := write_far P4 0 ⟨#[97]⟩ (by intro h; exact absurd h.2.2 (by decide))
      have e11 := syncE_good P4 (by unfold Dk.powered; rw [hc4]; rfl)
      obtain ⟨P5, hP5⟩ : ∃ X, X = P4.sync := ⟨_, rfl⟩
      have hP5n : P5.n = 2 := by rw [hP5]; show P4.spent.n = 2; rw [Dk.spent_n]; exact hP4n
      have e12 : P5.cutE 1 = ({ P5 with cut := true, left := 1 }, 0) := rfl
      obtain ⟨P6, hP6⟩ : ∃ X : Dk, X = { P5 with cut := true, left := 1 } := ⟨_, rfl⟩
      have e13 := syncE_good P6 (by rw [hP6]; rfl)
      obtain ⟨P7, hP7⟩ : ∃ X, X = P6.sync := ⟨_, rfl⟩
      have hd7 : P7.powered = false := by rw [hP7, hP6]; rfl
      have hP7n : P7.n = 2 := by rw [hP7, hP6]; exact hP5n
      have hP7p : P7.pend = [] := by rw [hP7]; rfl
      have e14 := syncE_off P7 hd7
      have e15 := write_dark P7 0 (strB fx) ⟨by decide, by rw [hP7n]; decide, by rw [strB_size]; exact LA.out.2.2.2⟩ hd7
      have e16 := crashE_good P7 [] 0 (by rw [hP7p]; rfl) (by decide)
      have e17 := syncE_good (P7.crash []) rfl
      rw [← hP5] at e11
      rw [← hP6] at e12
      rw [← hP7] at e13
      have hf4 : P4.pend.length < 1000 := by rw [hP4]; show (0 : Nat) < 1000; decide
      have hf7 : P7.pend.length < 1000 := by rw [hP7p]; decide
      have E := Lib.hid (And.intro e0 (And.intro e1 (And.intro e2 (And.intro e3 (And.intro e4 (And.intro e5 (And.intro e6 (And.intro e7 (And.intro e8 (And.intro e9 (And.intro e10 (And.intro e11 (And.intro e12 (And.intro e13 (And.intro e14 (And.intro e15 (And.intro e16 (And.intro e17 (And.intro hf4 (And.intro hf7 hP5n))))))))))))))))))))
      have HL := Lib.hid hPl
      clear e0 e1 e2 e3 e4 e5 e6 e7 e8 e9 e10 e11 e12 e13 e14 e15 e16 e17 h4 h5 h6 hP0 hPn hk hk2 hk3 hc4 hQp hd7 hP7n hP7p hP5n hP4n hQ4n h8 hQ5n hf4 hf7 hP hPl hP4 hQ4 hQ5 hP5 hP6 hP7 HT FB z8
      have hlen3 := HL.out
      go_wp2_with fail
      refine (pending_held (i := 0) HTP.out.1 rfl).mono ?_
      rintro e x0 ⟨rfl, rfl⟩
      go_wp2_with fail
      refine (read_as HTP.out.1 0 rfl (by decide) E.out.1).mono ?_
      rintro e x1 ⟨rfl, hT⟩
      have U1 := Lib.hid (HTP.out.trans hT); clear hT HTP
      go_wp2_with fail
      refine (crash_lit U1.out.1 0 rfl [3] (by decide) (by simp) (n := 1) rfl rfl E.out.2.1 (L' := [(p, P), (q, P)]) rfl).mono ?_
      rintro e x2 ⟨rfl, hT⟩
      have U2 := Lib.hid (U1.out.trans hT); clear hT U1
      go_wp2_with fail
      refine (crash_lit U2.out.1 0 rfl [2, 1] (by decide) (by simp) (n := 2) rfl rfl E.out.2.2.1 (L' := [(p, P4), (q, P)]) rfl).mono ?_
      rintro e x3 ⟨rfl, hT⟩
      have U3 := Lib.hid (U2.out.trans hT); clear hT U2
      go_wp2_with fail
      refine (crash_lit U3.out.1 1 rfl [2, 0] (by decide) (by simp) (n := 2) rfl rfl E.out.2.2.2.1 (L' := [(p, P4), (q, Q4)]) rfl).mono ?_
      rintro e x4 ⟨rfl, hT⟩
      have U4 := Lib.hid (U3.out.trans hT); clear hT U3
      go_wp2_with fail
      refine (read_as U4.out.1 0 rfl (by decide) E.out.2.2.2.2.1).mono ?_
      rintro e x5 ⟨rfl, hT⟩
      have U5 := Lib.hid (U4.out.trans hT); clear hT U4
      go_wp2_with fail
      refine (read_as U5.out.1 1 rfl (by decide) E.out.2.2.2.2.2.1).mono ?_
      rintro e x6 ⟨rfl, hT⟩
      have U6 := Lib.hid (U5.out.trans hT); clear hT U5
      go_wp2_with fail
      refine (read_as U6.out.1 1 rfl (by decide) E.out.2.2.2.2.2.2.1).mono ?_
      rintro e x7 ⟨rfl, hT⟩
      have U7 := Lib.hid (U6.out.trans hT); clear hT U6
      go_wp2_with fail
      refine (rot_as U7.out.1 1 rfl (by decide) E.out.2.2.2.2.2.2.2.1 (L' := [(p, P4), (q, Q5)]) rfl).mono ?_
      rintro e x8 ⟨rfl, hT⟩
      have U8 := Lib.hid (U7.out.trans hT); clear hT U7
      go_wp2_with fail
      refine (read_as U8.out.1 1 rfl (by decide) E.out.2.2.2.2.2.2.2.2.1).mono ?_
      rintro e x9 ⟨rfl, hT⟩
      have U9 := Lib.hid (U8.out.trans hT); clear hT U8
      go_wp2_with fail
      refine (new_bad 769 (by decide) (by decide) (.inr (by decide)) _).mono ?_
      rintro e x10 ⟨rfl, rfl⟩
      go_wp2_with fail
      refine (FC.out _ _ _ U9.out.1).mono ?_
      rintro e x11 ⟨rfl, hT⟩
      have U11 := Lib.hid (U9.out.trans hT); clear hT U9
      go_wp2_with fail
      refine (FC.out _ _ _ U11.out.1).mono ?_
      rintro e x12 ⟨rfl, hT⟩
      have U12 := Lib.hid (U11.out.trans hT); clear hT U11
      go_wp2_with fail
      refine (FA.out _ _ _ U12.out.1).mono ?_
      rintro e x13 ⟨rfl, hT⟩
      have U13 := Lib.hid (U12.out.trans hT); clear hT U12
      go_wp2_with fail
      refine (F0.out _ _ _ U13.out.1).mono ?_
      rintro e x14 ⟨rfl, hT⟩
      have U14 := Lib.hid (U13.out.trans hT); clear hT U13
      go_wp2_with fail
      refine (FA.out _ _ _ U14.out.1).mono ?_
      rintro e x15 ⟨rfl, hT⟩
      have U15 := Lib.hid (U14.out.trans hT); clear hT U14
      go_wp2_with fail
      refine (write_as U15.out.1 0 rfl E.out.2.2.2.2.2.2.2.2.2.2.2.2.2.2.2.2.2.2.1 (by decide) E.out.2.2.2.2.2.2.2.2.2.1 (L' := [(p, P4), (q, Q5)]) rfl).mono ?_
      rintro e x16 ⟨rfl, hT⟩
      have U16 := Lib.hid (U15.out.trans hT); clear hT U15
      go_wp2_with fail
      refine (write_as U16.out.1 0 rfl E.out.2.2.2.2.2.2.2.2.2.2.2.2.2.2.2.2.2.2.1 (by decide) E.out.2.2.2.2.2.2.2.2.2.2.1 (L' := [(p, P4), (q, Q5)]) rfl).mono ?_
      rintro e x17 ⟨rfl, hT⟩
      have U17 := Lib.hid (U16.out.trans hT); clear hT U16
      go_wp2_with fail
      refine (sync_as U17.out.1 0 rfl E.out.2.2.2.2.2.2.2.2.2.2.2.1 (L' := [(p, P5), (q, Q5)]) rfl).mono ?_
      rintro e x18 ⟨rfl, hT⟩
      have U18 := Lib.hid (U17.out.trans hT); clear hT U17
      go_wp2_with fail
      refine (size_held (i := 0) U18.out.1 rfl).mono ?_
      rintro e x19 ⟨rfl, rfl⟩
      have hn2 := E.out.2.2.2.2.2.2.2.2.2.2.2.2.2.2.2.2.2.2.2.2
      go_wp2_with fail
      refine (cut_as U18.out.1 0 rfl (by decide) E.out.2.2.2.2.2.2.2.2.2.2.2.2.1 (L' := [(p, P6), (q, Q5)]) rfl).mono ?_
      rintro e x20 ⟨rfl, hT⟩
      have U20 := Lib.hid (U18.out.trans hT); clear hT U18
      go_wp2_with fail
      refine (sync_as U20.out.1 0 rfl E.out.2.2.2.2.2.2.2.2.2.2.2.2.2.1 (L' := [(p, P7), (q, Q5)]) rfl).mono ?_
      rintro e x21 ⟨rfl, hT⟩
      have U21 := Lib.hid (U20.out.trans hT); clear hT U20
      go_wp2_with fail
      refine (sync_as U21.out.1 0 rfl E.out.2.2.2.2.2.2.2.2.2.2.2.2.2.2.1 (L' := [(p, P7), (q, Q5)]) rfl).mono ?_
      rintro e x22 ⟨rfl, hT⟩
      have U22 := Lib.hid (U21.out.trans hT); clear hT U21
      go_wp2_with fail
      refine (FX.out _ _ _ U22.out.1).mono ?_
      rintro e x23 ⟨rfl, hT⟩
      have U23 := Lib.hid (U22.out.trans hT); clear hT U22
      go_wp2_with fail
      refine (write_as U23.out.1 0 rfl E.out.2.2.2.2.2.2.2.2.2.2.2.2.2.2.2.2.2.2.2.1 (by decide) E.out.2.2.2.2.2.2.2.2.2.2.2.2.2.2.2.1 (L' := [(p, P7), (q, Q5)]) rfl).mono ?_
      rintro e x24 ⟨rfl, hT⟩
      have U24 := Lib.hid (U23.out.trans hT); clear hT U23
      go_wp2_with fail
      refine (crash_nil U24.out.1 0 rfl E.out.2.2.2.2.2.2.2.2.2.2.2.2.2.2.2.2.1 (L' := [(p, P7.crash []), (q, Q5)]) rfl).mono ?_
      rintro e x25 ⟨rfl, hT⟩
      have U25 := Lib.hid (U24.out.trans hT); clear hT U24
      go_wp2_with fail
      refine (sync_as U25.out.1 0 rfl E.out.2.2.2.2.2.2.2.2.2.2.2.2.2.2.2.2.2.1 (L' := [(p, (P7.crash []).sync), (q, Q5)]) rfl).mono ?_
      rintro e x26 ⟨rfl, hT⟩
      have U26 := Lib.hid (U25.out.trans hT); clear hT U25
      go_wp2
      go_ret
      have hfin := U26.out.2.below (B := w.heap.size) (fun k hk => Nat.le_of_not_lt fun hl => hk (HAW.out.2 k hl)) HB0.out.size
      exact ⟨Kit.ret_bool (by rfl), HB0.out.trans hfin⟩
end Go.Proofs.Ythmpdnndfgmmfaa.Disk
