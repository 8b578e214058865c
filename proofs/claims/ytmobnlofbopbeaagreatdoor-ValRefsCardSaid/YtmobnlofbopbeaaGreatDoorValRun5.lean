/- Layer 3: reading a value that is no list. -/
import Derived.Test.YtmobnlofbopbeaaGreatDoorValRun4
namespace Go.Proofs.YtmobnlofbopbeaaGreatDoor.Val
open Go.RowKit
open Kit (ret_int ret_bool Moved)

/-- A value that is no list, read: it, whether it is right, and the place. -/
def itemN (s : ByteArray) (a : Nat) : (Vl × Bool) × Nat :=
  if hereN s a = 34 then txtN s (stepN s a)
  else if hereN s a = 64 then ((flat 3 (refN s (stepN s a)).1 (bs []), refOk (refN s (stepN s a)).1), (refN s (stepN s a)).2)
  else if hereN s a = 126 then ((flat 4 (refN s (stepN s a)).1 (bs []), refOk (refN s (stepN s a)).1), (refN s (stepN s a)).2)
  else if hereN s a = 48 then ((flat 1 0 (bs []), true), stepN s a)
  else if hereN s a = 45 then
    (if 0 < (digN s 1000000000000000 (stepN s a)).1 then ((flat 1 (-(digN s 1000000000000000 (stepN s a)).1) (bs []), true), (digN s 1000000000000000 (stepN s a)).2) else ((flat 0 0 (bs []), true), (digN s 1000000000000000 (stepN s a)).2))
  else ((flat 1 (digN s 1000000000000000 a).1 (bs []), decide (0 < (digN s 1000000000000000 a).1)), (digN s 1000000000000000 a).2)

theorem eq_false_of {c d : Int} (h : ¬ c = d) : (c == d) = false := by simpa using h
theorem eq_true_of {c d : Int} (h : c = d) : (c == d) = true := by simpa using h

/-- What item finds when it begins. -/
structure IB (ae : Addr) (w0 w : World) (bl s0 ba : Nat) (s : ByteArray) (a : Nat) (W0 : World) : Prop where
  rt : RT ae w0 bl s0 ba s a W0
  rb : RB w bl ba W0
  ws : w0.heap.size ≤ w.heap.size
  lb : bl < w.heap.size
  ls : s0 < w.heap.size
theorem item_begins {ae : Addr} {w0 w : World} {bl s0 ba : Nat} {s : ByteArray} {a : Nat} (h : RT ae w0 bl s0 ba s a w) {W0 : World} (hW0 : W0 = (w.alloc (.cells #[rf3 bl, rf4 bl ba, rf5 ba] 82)).alloc (.cells #[.int .i64 0, .int .i64 0, .string ⟨#[]⟩, .slice none 0 0] 30)) :
    IB ae w0 w bl s0 ba s a W0 :=
  ⟨h.later (by rw [hW0]; exact Kit.below_alloc2 _ _ _), by rw [hW0]; exact rb_begins w bl ba h.boxA.lt _ rfl, h.below.size, h.boxL.lt, h.boxS.lt⟩
theorem IB.call {ae : Addr} {w0 w : World} {bl s0 ba : Nat} {s : ByteArray} {a b : Nat} {W0 W1 : World} (h : IB ae w0 w bl s0 ba s a W0) (hRT : RT ae w0 bl s0 ba s b W1) (hM : Moved (fun k => k = ba) W0 W1) : IB ae w0 w bl s0 ba s b W1 :=
  ⟨hRT, h.rb.call hM, h.ws, h.lb, h.ls⟩
theorem IB.fin {ae : Addr} {w0 w : World} {bl s0 ba : Nat} {s : ByteArray} {a : Nat} {w2 : World} (h : IB ae w0 w bl s0 ba s a w2) (v0 v1 v2 v3 : Value) :
    RT ae w0 bl s0 ba s a ((((w2.setCell ⟨w.heap.size + 1, 0, none⟩ v0).setCell ⟨w.heap.size + 1, 1, none⟩ v1).setCell ⟨w.heap.size + 1, 2, none⟩ v2).setCell ⟨w.heap.size + 1, 3, none⟩ v3) ∧ Moved (fun k => k = ba) w ((((w2.setCell ⟨w.heap.size + 1, 0, none⟩ v0).setCell ⟨w.heap.size + 1, 1, none⟩ v1).setCell ⟨w.heap.size + 1, 2, none⟩ v2).setCell ⟨w.heap.size + 1, 3, none⟩ v3) :=
  fin4 h.ws h.lb h.ls a w2 h.rt h.rb v0 v1 v2 v3
/-- Written out. -/
theorem IB.cells {ae : Addr} {w0 w : World} {bl s0 ba : Nat} {s : ByteArray} {a : Nat} {w2 : World} (h : IB ae w0 w bl s0 ba s a w2) :
    w2.cell? ⟨w.heap.size, 0, none⟩ = some (rf3 bl) ∧ w2.cell? ⟨w.heap.size, 1, none⟩ = some (rf4 bl ba) ∧ w2.cell? ⟨w.heap.size, 2, none⟩ = some (rf5 ba) := ⟨h.rb.c0, h.rb.c1, h.rb.c2⟩
theorem IB.res {ae : Addr} {w0 w : World} {bl s0 ba : Nat} {s : ByteArray} {a : Nat} {w2 : World} (h : IB ae w0 w bl s0 ba s a w2) :
    (w2.cell? ⟨w.heap.size + 1, 0, none⟩ = some (.int .i64 0) ∧ w2.cell? ⟨w.heap.size + 1, 1, none⟩ = some (.int .i64 0) ∧ w2.cell? ⟨w.heap.size + 1, 2, none⟩ = some (.string ⟨#[]⟩) ∧ w2.cell? ⟨w.heap.size + 1, 3, none⟩ = some (.slice none 0 0)) ∧
      (w2.frozen? ⟨w.heap.size + 1, 0, none⟩ = false ∧ w2.frozen? ⟨w.heap.size + 1, 1, none⟩ = false ∧ w2.frozen? ⟨w.heap.size + 1, 2, none⟩ = false ∧ w2.frozen? ⟨w.heap.size + 1, 3, none⟩ = false) :=
  ⟨h.rb.res.c, h.rb.res.f 0, h.rb.res.f 1, h.rb.res.f 2, h.rb.res.f 3⟩

set_option maxRecDepth 100000 in
set_option maxHeartbeats 4000000 in
theorem item_any (ae : Addr) (w0 : World) (bl s0 ba : Nat) (s : ByteArray) (a : Nat) (w : World) (h : RT ae w0 bl s0 ba s a w) :
    Calls Tryz.prog 101 #[ruV bl ba] w (TxtPost ae w0 w bl s0 ba s (itemN s a)) := by
  obtain ⟨W0, hW0⟩ : ∃ W0, W0 = (w.alloc (.cells #[rf3 bl, rf4 bl ba, rf5 ba] 82)).alloc (.cells #[.int .i64 0, .int .i64 0, .string ⟨#[]⟩, .slice none 0 0] 30) := ⟨_, rfl⟩
  have I0 := Lib.hid (item_begins h hW0)
  clear h
  unfold itemN
  by_cases hc : hereN s a = 34
  · rw [if_pos hc]
    obtain ⟨c1, c2, c3⟩ := I0.out.cells
    go_enter Tryz.func101, Tryz.ntmps101
    go_wp2_with fail
    rw [← hW0]
    clear hW0
    refine (skip_yes ae w0 bl s0 ba s a 34 _ I0.out.rt (eq_true_of hc)).mono ?_
    rintro e w1 ⟨rfl, hRT, hM⟩
    have I1 := Lib.hid (I0.out.call hRT hM)
    obtain ⟨r1, r2, r3⟩ := I1.out.cells
    clear hRT hM c1 c2 c3
    have c1 := r1
    have c2 := r2
    have c3 := r3
    clear r1 r2 r3
    have HT := Lib.hid (text_read ae w0 bl s0 ba s (stepN s a) w1 I1.out.rt)
    generalize txtN s (stepN s a) = A at *
    obtain ⟨⟨x, ok⟩, p⟩ := A
    unfold TxtPost at HT ⊢
    dsimp only at HT ⊢
    go_wp2_with fail
    refine HT.out.mono ?_
    rintro e w2 ⟨rfl, hRT, hM⟩
    have I2 := Lib.hid (I1.out.call hRT hM)
    clear hRT hM
    obtain ⟨⟨y0, y1, y2, y3⟩, yf0, yf1, yf2, yf3⟩ := I2.out.res
    clear c1 c2 c3
    go_wp2
    refine bodyPost_ret (v := .tuple #[flatV x.k x.n x.s, .bool ok]) (by simp [results, Tryz.results101, go_sem, y0, y1, y2, y3]) rfl ?_
    exact ⟨rfl, I2.out.fin _ _ _ _⟩
  · rw [if_neg hc]
    have n34 := hc
    clear hc
    by_cases hc : hereN s a = 64
    · rw [if_pos hc]
      obtain ⟨c1, c2, c3⟩ := I0.out.cells
      go_enter Tryz.func101, Tryz.ntmps101
      go_wp2_with fail
      rw [← hW0]
      clear hW0
      refine (skip_no ae w0 bl s0 ba s a 34 _ I0.out.rt (eq_false_of n34)).mono ?_
      rintro e w1 ⟨rfl, hRT, hM⟩
      have I1 := Lib.hid (I0.out.call hRT hM)
      obtain ⟨r1, r2, r3⟩ := I1.out.cells
      clear hRT hM c1 c2 c3
      have c1 := r1
      have c2 := r2
      have c3 := r3
      clear r1 r2 r3
      go_wp2_with fail
      refine (skip_yes ae w0 bl s0 ba s a 64 _ I1.out.rt (eq_true_of hc)).mono ?_
      rintro e w2 ⟨rfl, hRT, hM⟩
      have I2 := Lib.hid (I1.out.call hRT hM)
      obtain ⟨r1, r2, r3⟩ := I2.out.cells
      clear hRT hM c1 c2 c3
      have c1 := r1
      have c2 := r2
      have c3 := r3
      clear r1 r2 r3
      have HT := Lib.hid (reference_any ae w0 bl s0 ba s (stepN s a) 3 w2 I2.out.rt)
      generalize refN s (stepN s a) = A at *
      obtain ⟨x, p⟩ := A
      unfold TxtPost
      dsimp only at HT ⊢
      go_wp2_with fail
      refine HT.out.mono ?_
      rintro e w3 ⟨rfl, hRT, hM⟩
      have I3 := Lib.hid (I2.out.call hRT hM)
      clear hRT hM
      obtain ⟨⟨y0, y1, y2, y3⟩, yf0, yf1, yf2, yf3⟩ := I3.out.res
      clear c1 c2 c3
      go_wp2
      refine bodyPost_ret (v := .tuple #[flatV 3 x (bs []), .bool (refOk x)]) (by simp [results, Tryz.results101, go_sem, y0, y1, y2, y3]) rfl ?_
      exact ⟨rfl, I3.out.fin _ _ _ _⟩
    · rw [if_neg hc]
      have n64 := hc
      clear hc
      by_cases hc : hereN s a = 126
      · rw [if_pos hc]
        obtain ⟨c1, c2, c3⟩ := I0.out.cells
        go_enter Tryz.func101, Tryz.ntmps101
        go_wp2_with fail
        rw [← hW0]
        clear hW0
        refine (skip_no ae w0 bl s0 ba s a 34 _ I0.out.rt (eq_false_of n34)).mono ?_
        rintro e w1 ⟨rfl, hRT, hM⟩
        have I1 := Lib.hid (I0.out.call hRT hM)
        obtain ⟨r1, r2, r3⟩ := I1.out.cells
        clear hRT hM c1 c2 c3
        have c1 := r1
        have c2 := r2
        have c3 := r3
        clear r1 r2 r3
        go_wp2_with fail
        refine (skip_no ae w0 bl s0 ba s a 64 _ I1.out.rt (eq_false_of n64)).mono ?_
        rintro e w2 ⟨rfl, hRT, hM⟩
        have I2 := Lib.hid (I1.out.call hRT hM)
        obtain ⟨r1, r2, r3⟩ := I2.out.cells
        clear hRT hM c1 c2 c3
        have c1 := r1
        have c2 := r2
        have c3 := r3
        clear r1 r2 r3
        go_wp2_with fail
        refine (skip_yes ae w0 bl s0 ba s a 126 _ I2.out.rt (eq_true_of hc)).mono ?_
        rintro e w3 ⟨rfl, hRT, hM⟩
        have I3 := Lib.hid (I2.out.call hRT hM)
        obtain ⟨r1, r2, r3⟩ := I3.out.cells
        clear hRT hM c1 c2 c3
        have c1 := r1
        have c2 := r2
        have c3 := r3
        clear r1 r2 r3
        have HT := Lib.hid (reference_any ae w0 bl s0 ba s (stepN s a) 4 w3 I3.out.rt)
        generalize refN s (stepN s a) = A at *
        obtain ⟨x, p⟩ := A
        unfold TxtPost
        dsimp only at HT ⊢
        go_wp2_with fail
        refine HT.out.mono ?_
        rintro e w4 ⟨rfl, hRT, hM⟩
        have I4 := Lib.hid (I3.out.call hRT hM)
        clear hRT hM
        obtain ⟨⟨y0, y1, y2, y3⟩, yf0, yf1, yf2, yf3⟩ := I4.out.res
        clear c1 c2 c3
        go_wp2
        refine bodyPost_ret (v := .tuple #[flatV 4 x (bs []), .bool (refOk x)]) (by simp [results, Tryz.results101, go_sem, y0, y1, y2, y3]) rfl ?_
        exact ⟨rfl, I4.out.fin _ _ _ _⟩
      · rw [if_neg hc]
        have n126 := hc
        clear hc
        by_cases hc : hereN s a = 48
        · rw [if_pos hc]
          obtain ⟨c1, c2, c3⟩ := I0.out.cells
          go_enter Tryz.func101, Tryz.ntmps101
          go_wp2_with fail
          rw [← hW0]
          clear hW0
          refine (skip_no ae w0 bl s0 ba s a 34 _ I0.out.rt (eq_false_of n34)).mono ?_
          rintro e w1 ⟨rfl, hRT, hM⟩
          have I1 := Lib.hid (I0.out.call hRT hM)
          obtain ⟨r1, r2, r3⟩ := I1.out.cells
          clear hRT hM c1 c2 c3
          have c1 := r1
          have c2 := r2
          have c3 := r3
          clear r1 r2 r3
          go_wp2_with fail
          refine (skip_no ae w0 bl s0 ba s a 64 _ I1.out.rt (eq_false_of n64)).mono ?_
          rintro e w2 ⟨rfl, hRT, hM⟩
          have I2 := Lib.hid (I1.out.call hRT hM)
          obtain ⟨r1, r2, r3⟩ := I2.out.cells
          clear hRT hM c1 c2 c3
          have c1 := r1
          have c2 := r2
          have c3 := r3
          clear r1 r2 r3
          go_wp2_with fail
          refine (skip_no ae w0 bl s0 ba s a 126 _ I2.out.rt (eq_false_of n126)).mono ?_
          rintro e w3 ⟨rfl, hRT, hM⟩
          have I3 := Lib.hid (I2.out.call hRT hM)
          obtain ⟨r1, r2, r3⟩ := I3.out.cells
          clear hRT hM c1 c2 c3
          have c1 := r1
          have c2 := r2
          have c3 := r3
          clear r1 r2 r3
          go_wp2_with fail
          refine (skip_yes ae w0 bl s0 ba s a 48 _ I3.out.rt (eq_true_of hc)).mono ?_
          rintro e w4 ⟨rfl, hRT, hM⟩
          have I4 := Lib.hid (I3.out.call hRT hM)
          obtain ⟨r1, r2, r3⟩ := I4.out.cells
          clear hRT hM c1 c2 c3
          have c1 := r1
          have c2 := r2
          have c3 := r3
          clear r1 r2 r3
          unfold TxtPost
          dsimp only
          obtain ⟨⟨y0, y1, y2, y3⟩, yf0, yf1, yf2, yf3⟩ := I4.out.res
          clear c1 c2 c3
          go_wp2
          refine bodyPost_ret (v := .tuple #[flatV 1 0 (bs []), .bool true]) (by simp [results, Tryz.results101, go_sem, y0, y1, y2, y3]) rfl ?_
          exact ⟨rfl, I4.out.fin _ _ _ _⟩
        · rw [if_neg hc]
          have n48 := hc
          clear hc
          by_cases hc : hereN s a = 45
          · rw [if_pos hc]
            have hdi := digN_in s 1000000000000000 (stepN s a) (by decide) (stepN_le s a I0.out.rt.hi)
            obtain ⟨hx0, hx1, _⟩ := hdi
            by_cases hx : 0 < (digN s 1000000000000000 (stepN s a)).1
            · rw [if_pos hx]
              obtain ⟨c1, c2, c3⟩ := I0.out.cells
              go_enter Tryz.func101, Tryz.ntmps101
              go_wp2_with fail
              rw [← hW0]
              clear hW0
              refine (skip_no ae w0 bl s0 ba s a 34 _ I0.out.rt (eq_false_of n34)).mono ?_
              rintro e w1 ⟨rfl, hRT, hM⟩
              have I1 := Lib.hid (I0.out.call hRT hM)
              obtain ⟨r1, r2, r3⟩ := I1.out.cells
              clear hRT hM c1 c2 c3
              have c1 := r1
              have c2 := r2
              have c3 := r3
              clear r1 r2 r3
              go_wp2_with fail
              refine (skip_no ae w0 bl s0 ba s a 64 _ I1.out.rt (eq_false_of n64)).mono ?_
              rintro e w2 ⟨rfl, hRT, hM⟩
              have I2 := Lib.hid (I1.out.call hRT hM)
              obtain ⟨r1, r2, r3⟩ := I2.out.cells
              clear hRT hM c1 c2 c3
              have c1 := r1
              have c2 := r2
              have c3 := r3
              clear r1 r2 r3
              go_wp2_with fail
              refine (skip_no ae w0 bl s0 ba s a 126 _ I2.out.rt (eq_false_of n126)).mono ?_
              rintro e w3 ⟨rfl, hRT, hM⟩
              have I3 := Lib.hid (I2.out.call hRT hM)
              obtain ⟨r1, r2, r3⟩ := I3.out.cells
              clear hRT hM c1 c2 c3
              have c1 := r1
              have c2 := r2
              have c3 := r3
              clear r1 r2 r3
              go_wp2_with fail
              refine (skip_no ae w0 bl s0 ba s a 48 _ I3.out.rt (eq_false_of n48)).mono ?_
              rintro e w4 ⟨rfl, hRT, hM⟩
              have I4 := Lib.hid (I3.out.call hRT hM)
              obtain ⟨r1, r2, r3⟩ := I4.out.cells
              clear hRT hM c1 c2 c3
              have c1 := r1
              have c2 := r2
              have c3 := r3
              clear r1 r2 r3
              go_wp2_with fail
              refine (skip_yes ae w0 bl s0 ba s a 45 _ I4.out.rt (eq_true_of hc)).mono ?_
              rintro e w5 ⟨rfl, hRT, hM⟩
              have I5 := Lib.hid (I4.out.call hRT hM)
              obtain ⟨r1, r2, r3⟩ := I5.out.cells
              clear hRT hM c1 c2 c3
              have c1 := r1
              have c2 := r2
              have c3 := r3
              clear r1 r2 r3
              have HT := Lib.hid (digits_any ae w0 bl s0 ba s (stepN s a) 1000000000000000 (by decide) (by decide) w5 I5.out.rt)
              rw [decide_eq_true (by omega)] at HT
              generalize digN s 1000000000000000 (stepN s a) = A at *
              obtain ⟨x, p⟩ := A
              unfold TxtPost
              dsimp only at HT hx hx0 hx1 ⊢
              go_wp2_with fail
              refine HT.out.mono ?_
              rintro e w6 ⟨rfl, hRT, hM⟩
              have I6 := Lib.hid (I5.out.call hRT hM)
              clear hRT hM
              obtain ⟨⟨y0, y1, y2, y3⟩, yf0, yf1, yf2, yf3⟩ := I6.out.res
              clear c1 c2 c3
              go_wp2
              refine bodyPost_ret (v := .tuple #[flatV 1 (-x) (bs []), .bool true]) (by simp [results, Tryz.results101, go_sem, y0, y1, y2, y3]) rfl ?_
              exact ⟨rfl, I6.out.fin _ _ _ _⟩
            · rw [if_neg hx]
              obtain ⟨c1, c2, c3⟩ := I0.out.cells
              go_enter Tryz.func101, Tryz.ntmps101
              go_wp2_with fail
              rw [← hW0]
              clear hW0
              refine (skip_no ae w0 bl s0 ba s a 34 _ I0.out.rt (eq_false_of n34)).mono ?_
              rintro e w1 ⟨rfl, hRT, hM⟩
              have I1 := Lib.hid (I0.out.call hRT hM)
              obtain ⟨r1, r2, r3⟩ := I1.out.cells
              clear hRT hM c1 c2 c3
              have c1 := r1
              have c2 := r2
              have c3 := r3
              clear r1 r2 r3
              go_wp2_with fail
              refine (skip_no ae w0 bl s0 ba s a 64 _ I1.out.rt (eq_false_of n64)).mono ?_
              rintro e w2 ⟨rfl, hRT, hM⟩
              have I2 := Lib.hid (I1.out.call hRT hM)
              obtain ⟨r1, r2, r3⟩ := I2.out.cells
              clear hRT hM c1 c2 c3
              have c1 := r1
              have c2 := r2
              have c3 := r3
              clear r1 r2 r3
              go_wp2_with fail
              refine (skip_no ae w0 bl s0 ba s a 126 _ I2.out.rt (eq_false_of n126)).mono ?_
              rintro e w3 ⟨rfl, hRT, hM⟩
              have I3 := Lib.hid (I2.out.call hRT hM)
              obtain ⟨r1, r2, r3⟩ := I3.out.cells
              clear hRT hM c1 c2 c3
              have c1 := r1
              have c2 := r2
              have c3 := r3
              clear r1 r2 r3
              go_wp2_with fail
              refine (skip_no ae w0 bl s0 ba s a 48 _ I3.out.rt (eq_false_of n48)).mono ?_
              rintro e w4 ⟨rfl, hRT, hM⟩
              have I4 := Lib.hid (I3.out.call hRT hM)
              obtain ⟨r1, r2, r3⟩ := I4.out.cells
              clear hRT hM c1 c2 c3
              have c1 := r1
              have c2 := r2
              have c3 := r3
              clear r1 r2 r3
              go_wp2_with fail
              refine (skip_yes ae w0 bl s0 ba s a 45 _ I4.out.rt (eq_true_of hc)).mono ?_
              rintro e w5 ⟨rfl, hRT, hM⟩
              have I5 := Lib.hid (I4.out.call hRT hM)
              obtain ⟨r1, r2, r3⟩ := I5.out.cells
              clear hRT hM c1 c2 c3
              have c1 := r1
              have c2 := r2
              have c3 := r3
              clear r1 r2 r3
              have HT := Lib.hid (digits_any ae w0 bl s0 ba s (stepN s a) 1000000000000000 (by decide) (by decide) w5 I5.out.rt)
              rw [decide_eq_false (by omega)] at HT
              generalize digN s 1000000000000000 (stepN s a) = A at *
              obtain ⟨x, p⟩ := A
              unfold TxtPost
              dsimp only at HT hx hx0 hx1 ⊢
              go_wp2_with fail
              refine HT.out.mono ?_
              rintro e w6 ⟨rfl, hRT, hM⟩
              have I6 := Lib.hid (I5.out.call hRT hM)
              clear hRT hM
              obtain ⟨⟨y0, y1, y2, y3⟩, yf0, yf1, yf2, yf3⟩ := I6.out.res
              clear c1 c2 c3
              go_wp2
              refine bodyPost_ret (v := .tuple #[flatV 0 0 (bs []), .bool true]) (by simp [results, Tryz.results101, go_sem, y0, y1, y2, y3]) rfl ?_
              exact ⟨rfl, I6.out.fin _ _ _ _⟩
          · rw [if_neg hc]
            have n45 := hc
            clear hc
            obtain ⟨c1, c2, c3⟩ := I0.out.cells
            go_enter Tryz.func101, Tryz.ntmps101
            go_wp2_with fail
            rw [← hW0]
            clear hW0
            refine (skip_no ae w0 bl s0 ba s a 34 _ I0.out.rt (eq_false_of n34)).mono ?_
            rintro e w1 ⟨rfl, hRT, hM⟩
            have I1 := Lib.hid (I0.out.call hRT hM)
            obtain ⟨r1, r2, r3⟩ := I1.out.cells
            clear hRT hM c1 c2 c3
            have c1 := r1
            have c2 := r2
            have c3 := r3
            clear r1 r2 r3
            go_wp2_with fail
            refine (skip_no ae w0 bl s0 ba s a 64 _ I1.out.rt (eq_false_of n64)).mono ?_
            rintro e w2 ⟨rfl, hRT, hM⟩
            have I2 := Lib.hid (I1.out.call hRT hM)
            obtain ⟨r1, r2, r3⟩ := I2.out.cells
            clear hRT hM c1 c2 c3
            have c1 := r1
            have c2 := r2
            have c3 := r3
            clear r1 r2 r3
            go_wp2_with fail
            refine (skip_no ae w0 bl s0 ba s a 126 _ I2.out.rt (eq_false_of n126)).mono ?_
            rintro e w3 ⟨rfl, hRT, hM⟩
            have I3 := Lib.hid (I2.out.call hRT hM)
            obtain ⟨r1, r2, r3⟩ := I3.out.cells
            clear hRT hM c1 c2 c3
            have c1 := r1
            have c2 := r2
            have c3 := r3
            clear r1 r2 r3
            go_wp2_with fail
            refine (skip_no ae w0 bl s0 ba s a 48 _ I3.out.rt (eq_false_of n48)).mono ?_
            rintro e w4 ⟨rfl, hRT, hM⟩
            have I4 := Lib.hid (I3.out.call hRT hM)
            obtain ⟨r1, r2, r3⟩ := I4.out.cells
            clear hRT hM c1 c2 c3
            have c1 := r1
            have c2 := r2
            have c3 := r3
            clear r1 r2 r3
            go_wp2_with fail
            refine (skip_no ae w0 bl s0 ba s a 45 _ I4.out.rt (eq_false_of n45)).mono ?_
            rintro e w5 ⟨rfl, hRT, hM⟩
            have I5 := Lib.hid (I4.out.call hRT hM)
            obtain ⟨r1, r2, r3⟩ := I5.out.cells
            clear hRT hM c1 c2 c3
            have c1 := r1
            have c2 := r2
            have c3 := r3
            clear r1 r2 r3
            have HT := Lib.hid (digits_any ae w0 bl s0 ba s a 1000000000000000 (by decide) (by decide) w5 I5.out.rt)
            generalize digN s 1000000000000000 a = A at *
            obtain ⟨x, p⟩ := A
            unfold TxtPost
            dsimp only at HT ⊢
            go_wp2_with fail
            refine HT.out.mono ?_
            rintro e w6 ⟨rfl, hRT, hM⟩
            have I6 := Lib.hid (I5.out.call hRT hM)
            clear hRT hM
            obtain ⟨⟨y0, y1, y2, y3⟩, yf0, yf1, yf2, yf3⟩ := I6.out.res
            clear c1 c2 c3
            go_wp2
            refine bodyPost_ret (v := .tuple #[flatV 1 x (bs []), .bool (decide (0 < x))]) (by simp [results, Tryz.results101, go_sem, y0, y1, y2, y3]) rfl ?_
            exact ⟨rfl, I6.out.fin _ _ _ _⟩
end Go.Proofs.YtmobnlofbopbeaaGreatDoor.Val
