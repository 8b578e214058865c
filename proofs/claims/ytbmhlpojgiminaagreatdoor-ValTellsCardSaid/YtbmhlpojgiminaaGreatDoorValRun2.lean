/- Layer 3: reading digits, and a reference. -/
import Derived.Test.YtbmhlpojgiminaaGreatDoorValRun
import Derived.Test.YtbmhlpojgiminaaGreatDoorValRd4
import Derived.Deep.LoopGhost
namespace Go.Proofs.YtbmhlpojgiminaaGreatDoor.Val
open Go.RowKit
open Kit (ret_int ret_bool Moved)

theorem stepN_lt (s : ByteArray) (a : Nat) (h : hereN s a ≠ -1) : a < stepN s a := by
  unfold hereN lookN at h
  unfold stepN lookN
  split
  · rename_i h0; rw [if_pos h0] at h; exact absurd rfl h
  · have := Lib.decodeL_width (rest s a)
    split <;> (dsimp only; omega)
theorem hereN_range (s : ByteArray) (a : Nat) : -1 ≤ hereN s a ∧ hereN s a ≤ 1114111 := lookN_range _

/-- As many digits as make a number from 1 to most: the number, and the place behind. -/
def digF (s : ByteArray) (most : Int) : Nat → Int → Nat → Int × Nat
  | 0, n, a => (n, a)
  | g + 1, n, a => if hereN s a < 48 ∨ 57 < hereN s a ∨ n * 10 + (hereN s a - 48) < 1 ∨ most < n * 10 + (hereN s a - 48) then (n, a) else digF s most g (n * 10 + (hereN s a - 48)) (stepN s a)
def digN (s : ByteArray) (most : Int) (a : Nat) : Int × Nat := digF s most (s.size - a + 1) 0 a

theorem digF_in (s : ByteArray) (most : Int) : ∀ (g : Nat) (n : Int) (a : Nat), 0 ≤ n → (n ≤ most ∨ n = 0) → a ≤ s.size → 0 ≤ (digF s most g n a).1 ∧ ((digF s most g n a).1 ≤ most ∨ (digF s most g n a).1 = 0) ∧ (digF s most g n a).2 ≤ s.size
  | 0, n, a, h0, h1, h2 => ⟨h0, h1, h2⟩
  | g + 1, n, a, h0, h1, h2 => by
    rw [digF]
    split
    · exact ⟨h0, h1, h2⟩
    · exact digF_in s most g _ _ (by omega) (by omega) (stepN_le s a h2)

set_option maxRecDepth 100000 in
set_option maxHeartbeats 2000000 in
theorem digits_any (ae : Addr) (w0 : World) (bl s0 ba : Nat) (s : ByteArray) (a : Nat) (most : Int) (hm0 : 0 ≤ most) (hm1 : most ≤ 1000000000000000) (w : World) (h : RT ae w0 bl s0 ba s a w) :
    Calls Tryz.prog 105 #[ruV bl ba, .int .i64 most] w fun e w' => e = .returned (.tuple #[.int .i64 (digN s most a).1, .bool (decide (0 < (digN s most a).1))]) ∧ RT ae w0 bl s0 ba s (digN s most a).2 w' ∧ Moved (fun k => k = ba) w w' := by
  obtain ⟨W0, hW0⟩ : ∃ W0, W0 = w.alloc (.cells #[rf3 bl, rf4 bl ba, rf5 ba] 69) := ⟨_, rfl⟩
  have hB : Below w.heap.size w W0 := by rw [hW0]; exact Kit.below_alloc _ _
  have c0 : W0.cell? ⟨w.heap.size, 0, none⟩ = some (rf3 bl) := by rw [hW0]; exact Kit.cell_new _ _ _ 0 rfl
  have c1 : W0.cell? ⟨w.heap.size, 1, none⟩ = some (rf4 bl ba) := by rw [hW0]; exact Kit.cell_new _ _ _ 1 rfl
  have hba := h.boxA.lt
  have HR := Lib.hid (And.intro (h.later hB) (And.intro hB (And.intro c0 c1)))
  have hws := h.below.size
  clear h hB c0 c1
  obtain ⟨ANS, hANS⟩ : ∃ ANS, digN s most a = ANS := ⟨_, rfl⟩
  rw [hANS]
  go_enter Tryz.func105, Tryz.ntmps105
  go_wp2
  change Code.wp _ _ _ _ (w.alloc (.cells #[rf3 bl, rf4 bl ba, rf5 ba] 69))
  rw [← hW0]
  clear hW0
  go_loopg [6, 7, 8] (s.size - a + 1) (fun gk n c m wx => ∃ (N : Int) (p : Nat), n = .int .i64 N ∧ 0 ≤ N ∧ N ≤ 1000000000000000 ∧ digF s most gk N p = ANS ∧ s.size < p + gk ∧ RT ae w0 bl s0 ba s p wx ∧ wx.cell? ⟨w.heap.size, 0, none⟩ = some (rf3 bl) ∧ wx.cell? ⟨w.heap.size, 1, none⟩ = some (rf4 bl ba) ∧ Moved (fun k => k = ba) w wx)
  case atStart => exact ⟨0, a, rfl, by omega, by omega, hANS, by have := HR.out.1.hi; omega, HR.out.1, HR.out.2.2.1, HR.out.2.2.2, (Kit.Moved.of_below HR.out.2.1).mono (T := fun k => k = ba) (fun i hi hs => by omega)⟩
  case round =>
    obtain ⟨N, p, rfl, hN0, hN1, hA, hg, hRT, d0, d1, hM⟩ := hrel
    have hpi := hRT.hi
    obtain ⟨g', rfl⟩ : ∃ g', gk = g' + 1 := ⟨gk - 1, by omega⟩
    rw [digF] at hA
    have hr := hereN_range s p
    have HC := Lib.hid (here_any ae w0 bl s0 ba s p wr hRT)
    have hlt : w.heap.size < wr.heap.size := Kit.lt_of_cell d0
    have HT := Lib.hid (And.intro hRT hM)
    have hst := stepN_lt s p
    obtain ⟨c, hc⟩ : ∃ c, hereN s p = c := ⟨_, rfl⟩
    rw [hc] at hA HC hr hst
    have hmz := hM.size
    clear hRT hM hc
    by_cases hcc : c < 48 ∨ 57 < c ∨ N * 10 + (c - 48) < 1 ∨ most < N * 10 + (c - 48)
    · rw [if_pos hcc] at hA
      have HA := Lib.hid hA
      clear hA hANS
      have hx : (c < 48) ∨ (¬ c < 48 ∧ 57 < c) ∨ (¬ c < 48 ∧ ¬ 57 < c ∧ N * 10 + (c - 48) < 1) ∨ (¬ c < 48 ∧ ¬ 57 < c ∧ ¬ N * 10 + (c - 48) < 1 ∧ most < N * 10 + (c - 48)) := by omega
      clear hcc hst
      rcases hx with q1 | ⟨q1, q2⟩ | ⟨q1, q2, q3⟩ | ⟨q1, q2, q3, q4⟩
      all_goals
        go_wp2_with fail
        refine HC.out.mono ?_; rintro e w1 ⟨rfl, hB1⟩
        go_wp2
        go_ret2
        rw [← HA.out]
        exact ⟨rfl, HT.out.1.later hB1, HT.out.2.trans ((Kit.Moved.of_below hB1).mono (T := fun k => k = ba) (fun i hi hs => by omega)) (fun _ _ h => h)⟩
    · rw [if_neg hcc] at hA
      have HA := Lib.hid hA
      clear hA hANS
      have q1 : ¬ c < 48 := by omega
      have q2 : ¬ 57 < c := by omega
      have q3 : ¬ N * 10 + (c - 48) < 1 := by omega
      have q4 : ¬ most < N * 10 + (c - 48) := by omega
      have hlt2 := hst (by omega)
      clear hcc hst
      go_wp2_with fail
      refine HC.out.mono ?_; rintro e w1 ⟨rfl, hB1⟩
      have e0 := (hB1.cell (p := ⟨w.heap.size, 0, none⟩) hlt).trans d0
      have e1 := (hB1.cell (p := ⟨w.heap.size, 1, none⟩) hlt).trans d1
      have HS := Lib.hid (step_any ae w0 bl s0 ba s p w1 (HT.out.1.later hB1))
      have hz1 := hB1.size
      have HM := Lib.hid (HT.out.2.trans ((Kit.Moved.of_below hB1).mono (T := fun k => k = ba) (fun i hi hs => by omega)) (fun _ _ h => h))
      clear hB1 d0 d1
      go_wp2_with fail
      refine HS.out.mono ?_; rintro e w2 ⟨⟨v, rfl⟩, hR2, hM2⟩
      have f0 := cell_moved e0 hM2 (by omega)
      have f1 := cell_moved e1 hM2 (by omega)
      have HM2 := Lib.hid (And.intro hR2 (HM.out.trans hM2 (fun _ _ h => h)))
      clear hR2 hM2 e0 e1
      go_wp2
      go_roundg g'
      case rel => exact ⟨_, stepN s p, rfl, by omega, by omega, HA.out, by omega, HM2.out.1, f0, f1, HM2.out.2⟩
      case measure => omega
end Go.Proofs.YtbmhlpojgiminaaGreatDoor.Val
