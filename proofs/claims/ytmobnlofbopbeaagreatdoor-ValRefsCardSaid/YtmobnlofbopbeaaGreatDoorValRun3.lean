/- Layer 3: reading a reference, and a text. -/
import Derived.Test.YtmobnlofbopbeaaGreatDoorValRun2
import Derived.Lib.RuneBytes
namespace Go.Proofs.YtmobnlofbopbeaaGreatDoor.Val
open Go.RowKit
open Kit (ret_int ret_bool Moved)

theorem skip_no (ae : Addr) (w0 : World) (bl s0 ba : Nat) (s : ByteArray) (a : Nat) (c : Int) (w : World) (h : RT ae w0 bl s0 ba s a w) (hc : (hereN s a == c) = false) :
    Calls Tryz.prog 99 #[ruV bl ba, .int .i32 c] w fun e w' => e = .returned (.bool false) ∧ RT ae w0 bl s0 ba s a w' ∧ Moved (fun k => k = ba) w w' := by
  have := skip_any ae w0 bl s0 ba s a c w h
  rw [hc] at this
  simpa using this
theorem skip_yes (ae : Addr) (w0 : World) (bl s0 ba : Nat) (s : ByteArray) (a : Nat) (c : Int) (w : World) (h : RT ae w0 bl s0 ba s a w) (hc : (hereN s a == c) = true) :
    Calls Tryz.prog 99 #[ruV bl ba, .int .i32 c] w fun e w' => e = .returned (.bool true) ∧ RT ae w0 bl s0 ba s (stepN s a) w' ∧ Moved (fun k => k = ba) w w' := by
  have := skip_any ae w0 bl s0 ba s a c w h
  rw [hc] at this
  simpa using this

/-- The reader's own box, and the box of what is answered. -/
structure RB (w : World) (bl ba : Nat) (wx : World) : Prop where
  c0 : wx.cell? ⟨w.heap.size, 0, none⟩ = some (rf3 bl)
  c1 : wx.cell? ⟨w.heap.size, 1, none⟩ = some (rf4 bl ba)
  c2 : wx.cell? ⟨w.heap.size, 2, none⟩ = some (rf5 ba)
  res : BoxF wx (w.heap.size + 1) (.int .i64 0) (.int .i64 0) (.string ⟨#[]⟩) (.slice none 0 0)
  moved : Moved (fun k => k = ba) w wx
  ab : ba < w.heap.size
theorem RB.step {w : World} {bl ba : Nat} {wx w' : World} {S : Nat → Prop} (h : RB w bl ba wx) (hm : Moved S wx w') (hS : ∀ j, S j → j = ba ∨ w.heap.size + 1 < j) : RB w bl ba w' := by
  have h1 := h.ab
  have n0 : ¬ S w.heap.size := fun hj => by rcases hS _ hj with h | h <;> omega
  have n1 : ¬ S (w.heap.size + 1) := fun hj => by rcases hS _ hj with h | h <;> omega
  exact ⟨cell_moved h.c0 hm n0, cell_moved h.c1 hm n0, cell_moved h.c2 hm n0, h.res.moved hm n1, h.moved.trans hm (fun i hi hSi => by rcases hS i hSi with h | h; exact h; omega), h.ab⟩
theorem RB.call {w : World} {bl ba : Nat} {wx w' : World} (h : RB w bl ba wx) (hm : Moved (fun k => k = ba) wx w') : RB w bl ba w' := h.step hm fun _ hj => .inl hj
theorem RB.later {w : World} {bl ba : Nat} {wx w' : World} (h : RB w bl ba wx) (hB : Below wx.heap.size wx w') : RB w bl ba w' :=
  h.step (Kit.Moved.of_below hB) fun j hj => by have := h.res.c.lt; omega
/-- How a function of a reader begins that answers a value. -/
theorem rb_begins (w : World) (bl ba : Nat) (hab : ba < w.heap.size) (C : Obj) (hC : C = .cells #[rf3 bl, rf4 bl ba, rf5 ba] 82) : RB w bl ba ((w.alloc C).alloc (.cells #[.int .i64 0, .int .i64 0, .string ⟨#[]⟩, .slice none 0 0] 30)) := by
  subst hC
  refine ⟨Kit.cell_kept _ (Kit.cell_new _ _ _ 0 rfl), Kit.cell_kept _ (Kit.cell_new _ _ _ 1 rfl), Kit.cell_kept _ (Kit.cell_new _ _ _ 2 rfl), ?_, (Kit.Moved.of_below (Kit.below_alloc2 _ _ _)).mono (T := fun k => k = ba) (fun i hi hs => by omega), hab⟩
  have h := boxF_new (w.alloc (.cells #[rf3 bl, rf4 bl ba, rf5 ba] 82)) (.int .i64 0) (.int .i64 0) (.string ⟨#[]⟩) (.slice none 0 0) 30
  rw [World.size_alloc] at h
  exact h

/-- A reference's number, and the place behind. -/
def refN (s : ByteArray) (a : Nat) : Int × Nat := if hereN s a == 45 then (-(digN s 20 (stepN s a)).1, (digN s 20 (stepN s a)).2) else digN s 100000 a
/-- Is there one? -/
def refOk (n : Int) : Bool := decide (n ≠ 0)

theorem digN_in (s : ByteArray) (most : Int) (a : Nat) (h : 0 ≤ most) (ha : a ≤ s.size) : 0 ≤ (digN s most a).1 ∧ (digN s most a).1 ≤ most ∧ (digN s most a).2 ≤ s.size := by
  have := digF_in s most (s.size - a + 1) 0 a (Int.le_refl _) (.inr rfl) ha
  unfold digN
  omega

set_option maxRecDepth 100000 in
set_option maxHeartbeats 2000000 in
theorem reference_any (ae : Addr) (w0 : World) (bl s0 ba : Nat) (s : ByteArray) (a : Nat) (kd : Int) (w : World) (h : RT ae w0 bl s0 ba s a w) :
    Calls Tryz.prog 132 #[ruV bl ba, .int .i64 kd] w fun e w' => e = .returned (.tuple #[flatV kd (refN s a).1 (bs []), .bool (refOk (refN s a).1)]) ∧ RT ae w0 bl s0 ba s (refN s a).2 w' ∧ Moved (fun k => k = ba) w w' := by
  obtain ⟨W0, hW0⟩ : ∃ W0, W0 = (w.alloc (.cells #[rf3 bl, rf4 bl ba, rf5 ba] 82)).alloc (.cells #[.int .i64 0, .int .i64 0, .string ⟨#[]⟩, .slice none 0 0] 30) := ⟨_, rfl⟩
  have hB : Below w.heap.size w W0 := by rw [hW0]; exact Kit.below_alloc2 _ _ _
  have hRB : RB w bl ba W0 := by rw [hW0]; exact rb_begins w bl ba h.boxA.lt _ rfl
  have hRT := h.later hB
  have hws := h.below.size
  have hlb := h.boxL.lt
  have hls := h.boxS.lt
  have HR := Lib.hid (And.intro hRT hRB)
  clear h hRT hRB hB
  have fin : ∀ (d : Int × Nat) (w2 : World), RT ae w0 bl s0 ba s d.2 w2 → RB w bl ba w2 → ∀ v0 v1 v2 v3 : Value, RT ae w0 bl s0 ba s d.2 ((((w2.setCell ⟨w.heap.size + 1, 0, none⟩ v0).setCell ⟨w.heap.size + 1, 1, none⟩ v1).setCell ⟨w.heap.size + 1, 2, none⟩ v2).setCell ⟨w.heap.size + 1, 3, none⟩ v3) ∧ Moved (fun k => k = ba) w ((((w2.setCell ⟨w.heap.size + 1, 0, none⟩ v0).setCell ⟨w.heap.size + 1, 1, none⟩ v1).setCell ⟨w.heap.size + 1, 2, none⟩ v2).setCell ⟨w.heap.size + 1, 3, none⟩ v3) := fun d w2 h1 h2 v0 v1 v2 v3 => by
    have hm := end4b (w.heap.size + 1) w2 v0 v1 v2 v3
    have := h2.ab
    exact ⟨h1.moved hm (fun k hk => by omega) (by omega) (by omega) (by omega), h2.moved.trans hm (fun i hi hs => by omega)⟩
  have FIN := Lib.hid fin
  clear fin
  have r1 := HR.out.2.c0
  have r2 := HR.out.2.c1
  have r3 := HR.out.2.c2
  unfold refN
  cases hc : hereN s a == 45
  · simp only [Bool.false_eq_true, if_false]
    have HS := Lib.hid (skip_no ae w0 bl s0 ba s a 45 W0 HR.out.1 hc)
    have hdi := digN_in s 100000 a (by decide) HR.out.1.hi
    have hok : refOk (digN s 100000 a).1 = decide (0 < (digN s 100000 a).1) := by unfold refOk; apply decide_eq_decide.2; omega
    rw [hok]
    clear hok
    go_enter Tryz.func132, Tryz.ntmps132
    go_wp2_with fail
    rw [← hW0]
    clear hW0
    refine HS.out.mono ?_; rintro e w1 ⟨rfl, hRT1, hM1⟩
    have hRB1 := HR.out.2.call hM1
    have q1 := hRB1.c0
    have q2 := hRB1.c1
    have q3 := hRB1.c2
    have HD := Lib.hid (digits_any ae w0 bl s0 ba s a 100000 (by decide) (by decide) w1 hRT1)
    have HB1 := Lib.hid hRB1
    clear hRT1 hM1 hRB1 r1 r2 r3 hc
    go_wp2_with fail
    refine HD.out.mono ?_; rintro e w2 ⟨rfl, hRT2, hM2⟩
    have hRB2 := HB1.out.call hM2
    obtain ⟨⟨y0, y1, y2, y3⟩, yf⟩ := hRB2.res
    have yf0 := yf 0
    have yf1 := yf 1
    have yf2 := yf 2
    have yf3 := yf 3
    have HF := Lib.hid (FIN.out (digN s 100000 a) w2 hRT2 hRB2)
    clear hRT2 hM2 hRB2 yf q1 q2 q3
    go_wp2
    exact bodyPost_ret (v := .tuple #[flatV kd (digN s 100000 a).1 (bs []), .bool (decide (0 < (digN s 100000 a).1))]) (by simp [results, Tryz.results132, go_sem, y0, y1, y2, y3]) rfl ⟨rfl, HF.out _ _ _ _⟩
  · simp only [if_true]
    have HS := Lib.hid (skip_yes ae w0 bl s0 ba s a 45 W0 HR.out.1 hc)
    have hdi := digN_in s 20 (stepN s a) (by decide) (stepN_le s a HR.out.1.hi)
    have hok : refOk (-(digN s 20 (stepN s a)).1) = decide (0 < (digN s 20 (stepN s a)).1) := by unfold refOk; apply decide_eq_decide.2; omega
    rw [hok]
    clear hok
    go_enter Tryz.func132, Tryz.ntmps132
    go_wp2_with fail
    rw [← hW0]
    clear hW0
    refine HS.out.mono ?_; rintro e w1 ⟨rfl, hRT1, hM1⟩
    have hRB1 := HR.out.2.call hM1
    have q1 := hRB1.c0
    have q2 := hRB1.c1
    have q3 := hRB1.c2
    have HD := Lib.hid (digits_any ae w0 bl s0 ba s (stepN s a) 20 (by decide) (by decide) w1 hRT1)
    have HB1 := Lib.hid hRB1
    clear hRT1 hM1 hRB1 r1 r2 r3 hc
    go_wp2_with fail
    refine HD.out.mono ?_; rintro e w2 ⟨rfl, hRT2, hM2⟩
    have hRB2 := HB1.out.call hM2
    obtain ⟨⟨y0, y1, y2, y3⟩, yf⟩ := hRB2.res
    have yf0 := yf 0
    have yf1 := yf 1
    have yf2 := yf 2
    have yf3 := yf 3
    have HF := Lib.hid (FIN.out (digN s 20 (stepN s a)) w2 hRT2 hRB2)
    clear hRT2 hM2 hRB2 yf q1 q2 q3
    go_wp2
    exact bodyPost_ret (v := .tuple #[flatV kd (-(digN s 20 (stepN s a)).1) (bs []), .bool (decide (0 < (digN s 20 (stepN s a)).1))]) (by simp [results, Tryz.results132, go_sem, y0, y1, y2, y3]) rfl ⟨rfl, HF.out _ _ _ _⟩
end Go.Proofs.YtmobnlofbopbeaaGreatDoor.Val
