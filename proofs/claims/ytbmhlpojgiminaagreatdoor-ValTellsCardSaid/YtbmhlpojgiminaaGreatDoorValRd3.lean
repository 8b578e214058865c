/- Layer 3: reading a value's bytes. -/
import Derived.Test.YtbmhlpojgiminaaGreatDoorValRd2
import Derived.Test.YtbmhlpojgiminaaGreatDoorBox
namespace Go.Proofs.YtbmhlpojgiminaaGreatDoor.Val
open Go.RowKit
open Kit (ret_int ret_bool Moved)

/-- A value that is no list, of a kind up to last, read at a place, under an error. -/
def decF (s : ByteArray) (last : Int) (st : Int × Int) : Vl × Int × Int :=
  if (rdI s (upTo last) st).1 = 1 ∨ (rdI s (upTo last) st).1 = 3 ∨ (rdI s (upTo last) st).1 = 4 then
    (.mk (rdI s (upTo last) st).1 (rdI s (rightN (rdI s (upTo last) st).1) (rdI s (upTo last) st).2).1 (bs []) [], (rdI s (rightN (rdI s (upTo last) st).1) (rdI s (upTo last) st).2).2)
  else if (rdI s (upTo last) st).1 = 2 then (.mk 2 0 (rdT s (rdI s (upTo last) st).2).1 [], (rdT s (rdI s (upTo last) st).2).2)
  else (.mk (rdI s (upTo last) st).1 0 (bs []) [], (rdI s (upTo last) st).2)

/-- What value finds when it begins. -/
theorem value_begins (ae : Addr) (w0 : World) (be s0 ba : Nat) (s : ByteArray) (st : Int × Int) (w : World) (h : RS ae w0 be s0 ba s st w) (last : Int) (f0 f1 f2 : Value) (W0 : World)
    (hW : W0 = ((w.alloc (.cells #[f0, f1, f2] 77)).alloc (.cells #[.int .i64 last] 3)).alloc (.cells #[.int .i64 0, .int .i64 0, .string ⟨#[]⟩, .slice none 0 0] 30)) :
    RS ae w0 be s0 ba s st W0 ∧ Below w.heap.size w W0 ∧ (W0.cell? ⟨w.heap.size, 0, none⟩ = some f0 ∧ W0.cell? ⟨w.heap.size, 1, none⟩ = some f1 ∧ W0.cell? ⟨w.heap.size, 2, none⟩ = some f2) ∧ Boxed W0 (w.heap.size + 1) 3 (.int .i64 last) ∧
      BoxF W0 (w.heap.size + 2) (.int .i64 0) (.int .i64 0) (.string ⟨#[]⟩) (.slice none 0 0) ∧ W0.heap.size = w.heap.size + 3 := by
  have hB : Below w.heap.size w W0 := by rw [hW]; exact (Kit.below_alloc2 w _ _).alloc (by simp; omega) _
  refine ⟨h.later hB, hB, ?_, ?_, ?_, by rw [hW]; simp⟩
  · rw [hW]
    exact ⟨Kit.cell_kept _ (Kit.cell_kept _ (Kit.cell_new _ _ _ 0 rfl)), Kit.cell_kept _ (Kit.cell_kept _ (Kit.cell_new _ _ _ 1 rfl)), Kit.cell_kept _ (Kit.cell_kept _ (Kit.cell_new _ _ _ 2 rfl))⟩
  · rw [hW]
    have h2 := Boxed.new (w.alloc (.cells #[f0, f1, f2] 77)) 3 (.int .i64 last)
    rw [World.size_alloc] at h2
    exact h2.alloc _
  · rw [hW]
    have h2 := boxF_new ((w.alloc (.cells #[f0, f1, f2] 77)).alloc (.cells #[.int .i64 last] 3)) (.int .i64 0) (.int .i64 0) (.string ⟨#[]⟩) (.slice none 0 0) 30
    rw [World.size_alloc, World.size_alloc] at h2
    exact h2

theorem rs_end {ae : Addr} {w0 : World} {be s0 ba : Nat} {s : ByteArray} {st st2 : Int × Int} {w W0 w2 : World} (_h : RS ae w0 be s0 ba s st W0) (hB : Below w.heap.size w W0) (h2 : RS ae w0 be s0 ba s st2 w2) (hm : Moved (Own be ba) W0 w2)
    (hbe : be < w.heap.size) (hba : ba < w.heap.size) (hw : s0 < w.heap.size) (hn : w0.heap.size ≤ w.heap.size) (W : World) (hW : Moved (fun k => w.heap.size ≤ k) w2 W) : RS ae w0 be s0 ba s st2 W ∧ Moved (Own be ba) w W := by
  refine ⟨h2.moved hW (fun k hk => by omega) (by omega) (by omega) (by omega), ?_⟩
  refine (((Kit.Moved.of_below hB).mono (T := Own be ba) (fun i hi hs => by omega)).trans hm (fun _ _ h => h)).trans hW (fun i hi hs => by omega)

set_option maxRecDepth 100000 in
set_option maxHeartbeats 2000000 in
theorem value_flat (ae : Addr) (w0 : World) (be s0 ba : Nat) (s : ByteArray) (st : Int × Int) (w : World) (h : RS ae w0 be s0 ba s st w) (last : Int) (hk : (rdI s (upTo last) st).1 ≠ 5) :
    Calls Tryz.prog 57 #[rdV be s0 ba, .int .i64 last] w fun e w' => e = .returned (flatV (decF s last st).1.k (decF s last st).1.n (decF s last st).1.s) ∧ RS ae w0 be s0 ba s (decF s last st).2 w' ∧ Moved (Own be ba) w w' := by
  obtain ⟨W0, hW0⟩ : ∃ W0, W0 = ((w.alloc (.cells #[.func (.func 85) #[] #[.pointer (some ⟨be, 0, none⟩), .pointer (some ⟨s0, 0, none⟩), .pointer (some ⟨ba, 0, none⟩)],
    .func (.func 88) #[] #[.pointer (some ⟨be, 0, none⟩), .pointer (some ⟨s0, 0, none⟩), .pointer (some ⟨ba, 0, none⟩)],
    .func (.func 91) #[] #[.pointer (some ⟨ba, 0, none⟩), .pointer (some ⟨be, 0, none⟩)]] 77)).alloc (.cells #[.int .i64 last] 3)).alloc (.cells #[.int .i64 0, .int .i64 0, .string ⟨#[]⟩, .slice none 0 0] 30) := ⟨_, rfl⟩
  obtain ⟨hR, hB, ⟨c0, c1, c2⟩, hL, hV, hz⟩ := value_begins ae w0 be s0 ba s st w h last _ _ _ W0 hW0
  have hbe := h.boxE.lt
  have hba := h.boxA.lt
  have HS := Lib.hid (And.intro h.boxS.lt h.below.size)
  have HH := Lib.hid (And.intro hR (And.intro hB (And.intro hL hV)))
  have HZ := Lib.hid hz
  have H1 := Lib.hid (readI ae w0 be s0 ba s st W0 hR 92 #[.pointer (some ⟨w.heap.size + 1, 0, none⟩)] (fun args w => by kernel_rfl) (upTo last) (ask1 last _ W0 hL))
  clear h hR hB hL hV hz
  unfold decF
  generalize rdI s (upTo last) st = r at *
  obtain ⟨k, st1⟩ := r
  simp only at hk H1 ⊢
  have HC := Lib.hid (And.intro c0 (And.intro c1 c2))
  by_cases h1 : k = 1 ∨ k = 3 ∨ k = 4
  · rw [if_pos h1]
    have hk3 : ((k == 1) = true) ∨ ((k == 1) = false ∧ (k == 3) = true) ∨ ((k == 1) = false ∧ (k == 3) = false ∧ (k == 4) = true) := by
      rcases h1 with h | h | h <;> simp [h]
    clear h1
    rcases hk3 with k1 | ⟨k1, k3⟩ | ⟨k1, k3, k4⟩
    all_goals
      go_enter Tryz.func57, Tryz.ntmps57
      go_wp2_with fail
      rw [← hW0]
      refine H1.out.mono ?_
      rintro e w1 ⟨rfl, hR1, hM1⟩
      have hz1 := hM1.size
      rw [HZ.out] at hz1
      have nR : ¬ Own be ba w.heap.size := by unfold Own; omega
      have nV : ¬ Own be ba (w.heap.size + 2) := by unfold Own; omega
      have nX : ¬ Own be ba w1.heap.size := by unfold Own; omega
      have hV1 := HH.out.2.2.2.moved hM1 nV
      have hX1 := boxF_new w1 (.int .i64 k) (.int .i64 0) (.string ⟨#[]⟩) (.slice none 0 0) 30
      have d0 := (hM1.block w.heap.size (by rw [HZ.out]; omega) nR)
      have e0 := (World.cell?_of_block (w := W0) (w' := w1) (a := ⟨w.heap.size, 0, none⟩) d0).trans HC.out.1
      have e1 := (World.cell?_of_block (w := W0) (w' := w1) (a := ⟨w.heap.size, 1, none⟩) d0).trans HC.out.2.1
      have hRa := hR1.later (Kit.below_alloc w1 (.cells #[.int .i64 k, .int .i64 0, .string ⟨#[]⟩, .slice none 0 0] 30))
      have HR := Lib.hid (And.intro hR1 (And.intro hM1 (And.intro hV1 (And.intro hX1 hRa))))
      have hlt : w.heap.size < w1.heap.size := by omega
      have hlt2 : w.heap.size + 2 < w1.heap.size := by omega
      clear hR1 hM1 hV1 hX1 hRa d0 hW0 c0 c1 c2 hz1
      go_wp2_with fail
      refine (readI ae w0 be s0 ba s st1 _ HR.out.2.2.2.2 93 #[.pointer (some ⟨w1.heap.size, 0, none⟩)] (fun args w => by kernel_rfl) (rightN k) (ask2 k w1.heap.size _ HR.out.2.2.2.1.c.1)).mono ?_
      rintro e w2 ⟨rfl, hR2, hM2⟩
      obtain ⟨⟨x0, x1, x2, x3⟩, xf⟩ := HR.out.2.2.2.1.moved hM2 nX
      obtain ⟨⟨y0, y1, y2, y3⟩, yf⟩ := (HR.out.2.2.1.alloc _).moved hM2 nV
      have xf1 := xf 1
      have xf2 := xf 2
      have yf0 := yf 0
      have yf1 := yf 1
      have yf2 := yf 2
      have yf3 := yf 3
      have HR2 := Lib.hid (rs_end HH.out.1 HH.out.2.1 hR2 ((HR.out.2.1.trans (Kit.Moved.alloc (Own be ba) w1 (.cells #[.int .i64 k, .int .i64 0, .string ⟨#[]⟩, .slice none 0 0] 30)) (fun _ _ h => h)).trans hM2 (fun _ _ h => h)) hbe hba HS.out.1 HS.out.2)
      have hne : w.heap.size + 2 ≠ w1.heap.size := by omega
      clear xf yf e0 e1 hR2 hM2
      go_wp2
      refine bodyPost_ret (v := flatV k (rdI s (rightN k) st1).1 (bs [])) (by simp [results, Tryz.results57, go_sem, y0, y1, y2, y3]) rfl ⟨rfl, ?_⟩
      exact HR2.out _ (end5 (Nat.le_of_lt hlt) (by omega) _ _ _ _ _ _ _)
  · rw [if_neg h1]
    have k1 : (k == 1) = false := by simp; omega
    have k3 : (k == 3) = false := by simp; omega
    have k4 : (k == 4) = false := by simp; omega
    have k5 : (k == 5) = false := by simpa using hk
    by_cases h2 : k = 2
    · rw [if_pos h2]
      subst h2
      clear h1 hk k1 k3 k4 k5
      go_enter Tryz.func57, Tryz.ntmps57
      go_wp2_with fail
      rw [← hW0]
      refine H1.out.mono ?_
      rintro e w1 ⟨rfl, hR1, hM1⟩
      have hz1 := hM1.size
      rw [HZ.out] at hz1
      have nR : ¬ Own be ba w.heap.size := by unfold Own; omega
      have nV : ¬ Own be ba (w.heap.size + 2) := by unfold Own; omega
      have nX : ¬ Own be ba w1.heap.size := by unfold Own; omega
      have hV1 := HH.out.2.2.2.moved hM1 nV
      have hX1 := boxF_new w1 (.int .i64 2) (.int .i64 0) (.string ⟨#[]⟩) (.slice none 0 0) 30
      have d0 := (hM1.block w.heap.size (by rw [HZ.out]; omega) nR)
      have e0 := (World.cell?_of_block (w := W0) (w' := w1) (a := ⟨w.heap.size, 0, none⟩) d0).trans HC.out.1
      have e1 := (World.cell?_of_block (w := W0) (w' := w1) (a := ⟨w.heap.size, 1, none⟩) d0).trans HC.out.2.1
      have hRa := hR1.later (Kit.below_alloc w1 (.cells #[.int .i64 2, .int .i64 0, .string ⟨#[]⟩, .slice none 0 0] 30))
      have HR := Lib.hid (And.intro hR1 (And.intro hM1 (And.intro hV1 (And.intro hX1 hRa))))
      have hlt : w.heap.size < w1.heap.size := by omega
      have hlt2 : w.heap.size + 2 < w1.heap.size := by omega
      clear hR1 hM1 hV1 hX1 hRa d0 hW0 c0 c1 c2 hz1
      go_wp2_with fail
      refine (readTx ae w0 be s0 ba s st1 _ HR.out.2.2.2.2).mono ?_
      rintro e w2 ⟨rfl, hR2, hM2⟩
      obtain ⟨⟨x0, x1, x2, x3⟩, xf⟩ := HR.out.2.2.2.1.moved hM2 nX
      obtain ⟨⟨y0, y1, y2, y3⟩, yf⟩ := (HR.out.2.2.1.alloc _).moved hM2 nV
      have xf1 := xf 1
      have xf2 := xf 2
      have yf0 := yf 0
      have yf1 := yf 1
      have yf2 := yf 2
      have yf3 := yf 3
      have HR2 := Lib.hid (rs_end HH.out.1 HH.out.2.1 hR2 ((HR.out.2.1.trans (Kit.Moved.alloc (Own be ba) w1 (.cells #[.int .i64 2, .int .i64 0, .string ⟨#[]⟩, .slice none 0 0] 30)) (fun _ _ h => h)).trans hM2 (fun _ _ h => h)) hbe hba HS.out.1 HS.out.2)
      have hne : w.heap.size + 2 ≠ w1.heap.size := by omega
      clear xf yf e0 e1 hR2 hM2
      go_wp2
      refine bodyPost_ret (v := flatV 2 0 (rdT s st1).1) (by simp [results, Tryz.results57, go_sem, y0, y1, y2, y3]) rfl ⟨rfl, ?_⟩
      exact HR2.out _ (end5 (Nat.le_of_lt hlt) (by omega) _ _ _ _ _ _ _)
    · rw [if_neg h2]
      have k2 : (k == 2) = false := by simpa using h2
      clear h1 h2 hk
      go_enter Tryz.func57, Tryz.ntmps57
      go_wp2_with fail
      rw [← hW0]
      refine H1.out.mono ?_
      rintro e w1 ⟨rfl, hR1, hM1⟩
      have hz1 := hM1.size
      rw [HZ.out] at hz1
      have nR : ¬ Own be ba w.heap.size := by unfold Own; omega
      have nV : ¬ Own be ba (w.heap.size + 2) := by unfold Own; omega
      have nX : ¬ Own be ba w1.heap.size := by unfold Own; omega
      have hV1 := HH.out.2.2.2.moved hM1 nV
      have hX1 := boxF_new w1 (.int .i64 k) (.int .i64 0) (.string ⟨#[]⟩) (.slice none 0 0) 30
      have d0 := (hM1.block w.heap.size (by rw [HZ.out]; omega) nR)
      have e0 := (World.cell?_of_block (w := W0) (w' := w1) (a := ⟨w.heap.size, 0, none⟩) d0).trans HC.out.1
      have e1 := (World.cell?_of_block (w := W0) (w' := w1) (a := ⟨w.heap.size, 1, none⟩) d0).trans HC.out.2.1
      have hRa := hR1.later (Kit.below_alloc w1 (.cells #[.int .i64 k, .int .i64 0, .string ⟨#[]⟩, .slice none 0 0] 30))
      have HR := Lib.hid (And.intro hR1 (And.intro hM1 (And.intro hV1 (And.intro hX1 hRa))))
      have hlt : w.heap.size < w1.heap.size := by omega
      have hlt2 : w.heap.size + 2 < w1.heap.size := by omega
      clear hR1 hM1 hV1 hX1 hRa d0 hW0 c0 c1 c2 hz1
      obtain ⟨⟨y0, y1, y2, y3⟩, yf⟩ := HR.out.2.2.1
      have yf0 := yf 0
      have yf1 := yf 1
      have yf2 := yf 2
      have yf3 := yf 3
      have HR2 := Lib.hid (rs_end HH.out.1 HH.out.2.1 HR.out.1 HR.out.2.1 hbe hba HS.out.1 HS.out.2)
      clear yf e0 e1
      go_wp2
      refine bodyPost_ret (v := flatV k 0 (bs [])) (by simp [results, Tryz.results57, go_sem, y0, y1, y2, y3, hlt2]) rfl ⟨rfl, ?_⟩
      exact HR2.out _ ((end4 (by omega) _ _ _ _ _).trans (Kit.Moved.alloc (fun k => w.heap.size ≤ k) _ _) (fun _ _ h => h))
end Go.Proofs.YtbmhlpojgiminaaGreatDoor.Val
