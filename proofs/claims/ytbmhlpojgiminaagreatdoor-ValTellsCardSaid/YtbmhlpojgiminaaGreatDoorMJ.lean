/- Layer 3: reading a reference, and a text. -/
import Derived.Test.YtbmhlpojgiminaaGreatDoorValRun2
import Derived.Lib.RuneBytes
import Derived.Test.YtbmhlpojgiminaaGreatDoorWireNum2
import Derived.Laws.AppendOwn
import Derived.Laws.OwnMore
namespace Go.Proofs.YtbmhlpojgiminaaGreatDoor.Val
open Go.RowKit
open Kit (ret_int ret_bool Moved)

theorem skip_no (ae : Addr) (w0 : World) (bl s0 ba : Nat) (s : ByteArray) (a : Nat) (c : Int) (w : World) (h : RT ae w0 bl s0 ba s a w) (hc : (hereN s a == c) = false) :
    Calls Tryz.prog 82 #[ruV bl ba, .int .i32 c] w fun e w' => e = .returned (.bool false) ∧ RT ae w0 bl s0 ba s a w' ∧ Moved (fun k => k = ba) w w' := by
  have := skip_any ae w0 bl s0 ba s a c w h
  rw [hc] at this
  simpa using this
theorem skip_yes (ae : Addr) (w0 : World) (bl s0 ba : Nat) (s : ByteArray) (a : Nat) (c : Int) (w : World) (h : RT ae w0 bl s0 ba s a w) (hc : (hereN s a == c) = true) :
    Calls Tryz.prog 82 #[ruV bl ba, .int .i32 c] w fun e w' => e = .returned (.bool true) ∧ RT ae w0 bl s0 ba s (stepN s a) w' ∧ Moved (fun k => k = ba) w w' := by
  have := skip_any ae w0 bl s0 ba s a c w h
  rw [hc] at this
  simpa using this

/-- The reader's own box, and the box of what is answered. -/
structure RB (w : World) (bl ba : Nat) (wx : World) : Prop where
  c0 : wx.cell? ⟨w.heap.size, 0, none⟩ = some (rf3 bl)
  c1 : wx.cell? ⟨w.heap.size, 1, none⟩ = some (rf4 bl ba)
  c2 : wx.cell? ⟨w.heap.size, 2, none⟩ = some (rf5 ba)
  res : BoxF wx (w.heap.size + 1) (.int .i64 0) (.int .i64 0) (.string ⟨#[]⟩) (.slice none 0 0)
  moved : Moved (fun k => k = ba) w wx
  ab : ba < w.heap.size
theorem RB.step {w : World} {bl ba : Nat} {wx w' : World} {S : Nat → Prop} (h : RB w bl ba wx) (hm : Moved S wx w') (hS : ∀ j, S j → j = ba ∨ w.heap.size + 1 < j) : RB w bl ba w' := by
  have h1 := h.ab
  have n0 : ¬ S w.heap.size := fun hj => by rcases hS _ hj with h | h <;> omega
  have n1 : ¬ S (w.heap.size + 1) := fun hj => by rcases hS _ hj with h | h <;> omega
  exact ⟨cell_moved h.c0 hm n0, cell_moved h.c1 hm n0, cell_moved h.c2 hm n0, h.res.moved hm n1, h.moved.trans hm (fun i hi hSi => by rcases hS i hSi with h | h; exact h; omega), h.ab⟩
theorem RB.call {w : World} {bl ba : Nat} {wx w' : World} (h : RB w bl ba wx) (hm : Moved (fun k => k = ba) wx w') : RB w bl ba w' := h.step hm fun _ hj => .inl hj
theorem RB.later {w : World} {bl ba : Nat} {wx w' : World} (h : RB w bl ba wx) (hB : Below wx.heap.size wx w') : RB w bl ba w' :=
  h.step (Kit.Moved.of_below hB) fun j hj => by have := h.res.c.lt; omega
/-- How a function of a reader begins that answers a value. -/
theorem rb_begins (w : World) (bl ba : Nat) (hab : ba < w.heap.size) (C : Obj) (hC : C = .cells #[rf3 bl, rf4 bl ba, rf5 ba] 69) : RB w bl ba ((w.alloc C).alloc (.cells #[.int .i64 0, .int .i64 0, .string ⟨#[]⟩, .slice none 0 0] 30)) := by
  subst hC
  refine ⟨Kit.cell_kept _ (Kit.cell_new _ _ _ 0 rfl), Kit.cell_kept _ (Kit.cell_new _ _ _ 1 rfl), Kit.cell_kept _ (Kit.cell_new _ _ _ 2 rfl), ?_, (Kit.Moved.of_below (Kit.below_alloc2 _ _ _)).mono (T := fun k => k = ba) (fun i hi hs => by omega), hab⟩
  have h := boxF_new (w.alloc (.cells #[rf3 bl, rf4 bl ba, rf5 ba] 69)) (.int .i64 0) (.int .i64 0) (.string ⟨#[]⟩) (.slice none 0 0) 30
  rw [World.size_alloc] at h
  exact h

/-- A reference's number, and the place behind. -/
def refN (s : ByteArray) (a : Nat) : Int × Nat := if hereN s a == 45 then (-(digN s 20 (stepN s a)).1, (digN s 20 (stepN s a)).2) else digN s 100000 a
/-- Is there one? -/
def refOk (n : Int) : Bool := decide (n ≠ 0)

theorem digN_in (s : ByteArray) (most : Int) (a : Nat) (h : 0 ≤ most) (ha : a ≤ s.size) : 0 ≤ (digN s most a).1 ∧ (digN s most a).1 ≤ most ∧ (digN s most a).2 ≤ s.size := by
  have := digF_in s most (s.size - a + 1) 0 a (Int.le_refl _) (.inr rfl) ha
  unfold digN
  omega

set_option maxRecDepth 100000 in
set_option maxHeartbeats 2000000 in
theorem reference_any (ae : Addr) (w0 : World) (bl s0 ba : Nat) (s : ByteArray) (a : Nat) (kd : Int) (w : World) (h : RT ae w0 bl s0 ba s a w) :
    Calls Tryz.prog 104 #[ruV bl ba, .int .i64 kd] w fun e w' => e = .returned (.tuple #[flatV kd (refN s a).1 (bs []), .bool (refOk (refN s a).1)]) ∧ RT ae w0 bl s0 ba s (refN s a).2 w' ∧ Moved (fun k => k = ba) w w' := by
  obtain ⟨W0, hW0⟩ : ∃ W0, W0 = (w.alloc (.cells #[rf3 bl, rf4 bl ba, rf5 ba] 69)).alloc (.cells #[.int .i64 0, .int .i64 0, .string ⟨#[]⟩, .slice none 0 0] 30) := ⟨_, rfl⟩
  have hB : Below w.heap.size w W0 := by rw [hW0]; exact Kit.below_alloc2 _ _ _
  have hRB : RB w bl ba W0 := by rw [hW0]; exact rb_begins w bl ba h.boxA.lt _ rfl
  have hRT := h.later hB
  have hws := h.below.size
  have hlb := h.boxL.lt
  have hls := h.boxS.lt
  have HR := Lib.hid (And.intro hRT hRB)
  clear h hRT hRB hB
  have fin : ∀ (d : Int × Nat) (w2 : World), RT ae w0 bl s0 ba s d.2 w2 → RB w bl ba w2 → ∀ v0 v1 v2 v3 : Value, RT ae w0 bl s0 ba s d.2 ((((w2.setCell ⟨w.heap.size + 1, 0, none⟩ v0).setCell ⟨w.heap.size + 1, 1, none⟩ v1).setCell ⟨w.heap.size + 1, 2, none⟩ v2).setCell ⟨w.heap.size + 1, 3, none⟩ v3) ∧ Moved (fun k => k = ba) w ((((w2.setCell ⟨w.heap.size + 1, 0, none⟩ v0).setCell ⟨w.heap.size + 1, 1, none⟩ v1).setCell ⟨w.heap.size + 1, 2, none⟩ v2).setCell ⟨w.heap.size + 1, 3, none⟩ v3) := fun d w2 h1 h2 v0 v1 v2 v3 => by
    have hm := end4b (w.heap.size + 1) w2 v0 v1 v2 v3
    have := h2.ab
    exact ⟨h1.moved hm (fun k hk => by omega) (by omega) (by omega) (by omega), h2.moved.trans hm (fun i hi hs => by omega)⟩
  have FIN := Lib.hid fin
  clear fin
  have r1 := HR.out.2.c0
  have r2 := HR.out.2.c1
  have r3 := HR.out.2.c2
  unfold refN
  cases hc : hereN s a == 45
  · simp only [Bool.false_eq_true, if_false]
    have HS := Lib.hid (skip_no ae w0 bl s0 ba s a 45 W0 HR.out.1 hc)
    have hdi := digN_in s 100000 a (by decide) HR.out.1.hi
    have hok : refOk (digN s 100000 a).1 = decide (0 < (digN s 100000 a).1) := by unfold refOk; apply decide_eq_decide.2; omega
    rw [hok]
    clear hok
    go_enter Tryz.func104, Tryz.ntmps104
    go_wp2_with fail
    rw [← hW0]
    clear hW0
    refine HS.out.mono ?_; rintro e w1 ⟨rfl, hRT1, hM1⟩
    have hRB1 := HR.out.2.call hM1
    have q1 := hRB1.c0
    have q2 := hRB1.c1
    have q3 := hRB1.c2
    have HD := Lib.hid (digits_any ae w0 bl s0 ba s a 100000 (by decide) (by decide) w1 hRT1)
    have HB1 := Lib.hid hRB1
    clear hRT1 hM1 hRB1 r1 r2 r3 hc
    go_wp2_with fail
    refine HD.out.mono ?_; rintro e w2 ⟨rfl, hRT2, hM2⟩
    have hRB2 := HB1.out.call hM2
    obtain ⟨⟨y0, y1, y2, y3⟩, yf⟩ := hRB2.res
    have yf0 := yf 0
    have yf1 := yf 1
    have yf2 := yf 2
    have yf3 := yf 3
    have HF := Lib.hid (FIN.out (digN s 100000 a) w2 hRT2 hRB2)
    clear hRT2 hM2 hRB2 yf q1 q2 q3
    go_wp2
    exact bodyPost_ret (v := .tuple #[flatV kd (digN s 100000 a).1 (bs []), .bool (decide (0 < (digN s 100000 a).1))]) (by simp [results, Tryz.results104, go_sem, y0, y1, y2, y3]) rfl ⟨rfl, HF.out _ _ _ _⟩
  · simp only [if_true]
    have HS := Lib.hid (skip_yes ae w0 bl s0 ba s a 45 W0 HR.out.1 hc)
    have hdi := digN_in s 20 (stepN s a) (by decide) (stepN_le s a HR.out.1.hi)
    have hok : refOk (-(digN s 20 (stepN s a)).1) = decide (0 < (digN s 20 (stepN s a)).1) := by unfold refOk; apply decide_eq_decide.2; omega
    rw [hok]
    clear hok
    go_enter Tryz.func104, Tryz.ntmps104
    go_wp2_with fail
    rw [← hW0]
    clear hW0
    refine HS.out.mono ?_; rintro e w1 ⟨rfl, hRT1, hM1⟩
    have hRB1 := HR.out.2.call hM1
    have q1 := hRB1.c0
    have q2 := hRB1.c1
    have q3 := hRB1.c2
    have HD := Lib.hid (digits_any ae w0 bl s0 ba s (stepN s a) 20 (by decide) (by decide) w1 hRT1)
    have HB1 := Lib.hid hRB1
    clear hRT1 hM1 hRB1 r1 r2 r3 hc
    go_wp2_with fail
    refine HD.out.mono ?_; rintro e w2 ⟨rfl, hRT2, hM2⟩
    have hRB2 := HB1.out.call hM2
    obtain ⟨⟨y0, y1, y2, y3⟩, yf⟩ := hRB2.res
    have yf0 := yf 0
    have yf1 := yf 1
    have yf2 := yf 2
    have yf3 := yf 3
    have HF := Lib.hid (FIN.out (digN s 20 (stepN s a)) w2 hRT2 hRB2)
    clear hRT2 hM2 hRB2 yf q1 q2 q3
    go_wp2
    exact bodyPost_ret (v := .tuple #[flatV kd (-(digN s 20 (stepN s a)).1) (bs []), .bool (decide (0 < (digN s 20 (stepN s a)).1))]) (by simp [results, Tryz.results104, go_sem, y0, y1, y2, y3]) rfl ⟨rfl, HF.out _ _ _ _⟩
end Go.Proofs.YtbmhlpojgiminaaGreatDoor.Val
/- Layer 3: reading a text. -/
namespace Go.Proofs.YtbmhlpojgiminaaGreatDoor.Val
open Go.RowKit
open Kit (ret_int ret_bool Moved)

/-- What stands behind a text's first quote: the value, whether it is right, and the place. -/
def txtF (s : ByteArray) : Nat → List Int → Nat → (Vl × Bool) × Nat
  | 0, _, a => ((flat 0 0 (bs []), false), a)
  | g + 1, b, a =>
    if 60 < b.length then ((flat 0 0 (bs []), false), a)
    else if hereN s a = -1 then ((flat 0 0 (bs []), false), stepN s a)
    else if hereN s a = 34 then ((flat 2 0 (strOfNums b), rightT (strOfNums b)), stepN s a)
    else if hereN s a = 92 then
      (if hereN s (stepN s a) ≠ 34 ∧ hereN s (stepN s a) ≠ 92 then ((flat 0 0 (bs []), false), stepN s (stepN s a)) else txtF s g (b ++ Lib.encodeRuneZ (hereN s (stepN s a))) (stepN s (stepN s a)))
    else txtF s g (b ++ Lib.encodeRuneZ (hereN s a)) (stepN s a)
def txtN (s : ByteArray) (a : Nat) : (Vl × Bool) × Nat := txtF s 62 [] a

theorem runeCells_map (r : Int) : Lib.runeCells r = (Lib.encodeRuneZ r).map (Value.int .u8) := rfl

theorem runeCells_len (r : Int) : (Lib.runeCells r).length = (Lib.encodeRuneZ r).length := by rw [runeCells_map, List.length_map]

/-- What is answered, and what stands then. -/
def TxtPost (ae : Addr) (w0 w : World) (bl s0 ba : Nat) (s : ByteArray) (A : (Vl × Bool) × Nat) (e : Ending) (w' : World) : Prop :=
  e = .returned (.tuple #[flatV A.1.1.k A.1.1.n A.1.1.s, .bool A.1.2]) ∧ RT ae w0 bl s0 ba s A.2 w' ∧ Moved (fun k => k = ba) w w'

theorem fin4 {ae : Addr} {w0 w : World} {bl s0 ba : Nat} {s : ByteArray} (hws : w0.heap.size ≤ w.heap.size) (hlb : bl < w.heap.size) (hls : s0 < w.heap.size) (p : Nat) (w2 : World) (h1 : RT ae w0 bl s0 ba s p w2) (h2 : RB w bl ba w2) (v0 v1 v2 v3 : Value) :
    RT ae w0 bl s0 ba s p ((((w2.setCell ⟨w.heap.size + 1, 0, none⟩ v0).setCell ⟨w.heap.size + 1, 1, none⟩ v1).setCell ⟨w.heap.size + 1, 2, none⟩ v2).setCell ⟨w.heap.size + 1, 3, none⟩ v3) ∧ Moved (fun k => k = ba) w ((((w2.setCell ⟨w.heap.size + 1, 0, none⟩ v0).setCell ⟨w.heap.size + 1, 1, none⟩ v1).setCell ⟨w.heap.size + 1, 2, none⟩ v2).setCell ⟨w.heap.size + 1, 3, none⟩ v3) := by
  have hm := end4b (w.heap.size + 1) w2 v0 v1 v2 v3
  have := h2.ab
  exact ⟨h1.moved hm (fun k hk => by omega) (by omega) (by omega) (by omega), h2.moved.trans hm (fun i hi hs => by omega)⟩

set_option maxRecDepth 100000 in
set_option maxHeartbeats 4000000 in
theorem text_read (ae : Addr) (w0 : World) (bl s0 ba : Nat) (s : ByteArray) (a : Nat) (w : World) (h : RT ae w0 bl s0 ba s a w) :
    Calls Tryz.prog 103 #[ruV bl ba] w (TxtPost ae w0 w bl s0 ba s (txtN s a)) := by
  obtain ⟨W0, hW0⟩ : ∃ W0, W0 = (w.alloc (.cells #[rf3 bl, rf4 bl ba, rf5 ba] 69)).alloc (.cells #[.int .i64 0, .int .i64 0, .string ⟨#[]⟩, .slice none 0 0] 30) := ⟨_, rfl⟩
  have hB : Below w.heap.size w W0 := by rw [hW0]; exact Kit.below_alloc2 _ _ _
  have hz0 : W0.heap.size = w.heap.size + 2 := by rw [hW0]; simp
  have hRB : RB w bl ba W0 := by rw [hW0]; exact rb_begins w bl ba h.boxA.lt _ rfl
  have hRT := h.later hB
  have hws := h.below.size
  have hlb := h.boxL.lt
  have hls := h.boxS.lt
  have hla := h.boxA.lt
  have HR := Lib.hid (And.intro hRT hRB)
  have HZ := Lib.hid hz0
  clear h hRT hRB hB hz0
  obtain ⟨ANS, hANS⟩ : ∃ ANS, txtN s a = ANS := ⟨_, rfl⟩
  rw [hANS]
  obtain ⟨i0, hinf, hi0, hi1, hi2⟩ := info_parts Wire.info5
  go_enter Tryz.func103, Tryz.ntmps103
  go_wp2
  change Code.wp _ _ _ _ ((w.alloc (.cells #[rf3 bl, rf4 bl ba, rf5 ba] 69)).alloc (.cells #[.int .i64 0, .int .i64 0, .string ⟨#[]⟩, .slice none 0 0] 30))
  rw [← hW0]
  clear hW0
  go_loopg [4, 5, 6] 62 (fun gk v c t wx => ∃ (b : List Int) (p : Nat), (∃ a1 c1, v = .slice a1 b.length c1) ∧ 1 ≤ gk ∧ txtF s gk b p = ANS ∧ 61 < b.length + gk ∧ b.length ≤ 64 ∧ RT ae w0 bl s0 ba s p wx ∧ RB w bl ba wx ∧ wx.ownsRow (w.heap.size + 2) 5 1 v b.length (b.map (Value.int .u8)) ∧ w.heap.size + 2 ≤ wx.heap.size)
  case atStart => exact ⟨[], a, ⟨none, 0, rfl⟩, by omega, hANS, by simp, by simp, HR.out.1, HR.out.2, World.ownsRow_nil _ _ _ _, by rw [HZ.out]; omega⟩
  case round =>
    obtain ⟨b, p, ⟨a1, c1, rfl⟩, hg1, hA, hg, hb64, hRT, hRB, hown, hsz⟩ := hrel
    obtain ⟨g', rfl⟩ : ∃ g', gk = g' + 1 := ⟨gk - 1, by omega⟩
    clear hANS HR
    rw [txtF] at hA
    by_cases h60 : 60 < b.length
    · rw [if_pos h60] at hA
      have HA := Lib.hid hA
      have h60z : ¬ (b.length : Int) ≤ 60 := by omega
      have hRT9 := hRT
      have hRB9 := hRB
      clear hA hRT hRB
      obtain ⟨⟨y0, y1, y2, y3⟩, yf⟩ := hRB9.res
      have yf0 := yf 0
      have yf1 := yf 1
      have yf2 := yf 2
      have yf3 := yf 3
      have HF := Lib.hid (fin4 hws hlb hls p wr hRT9 hRB9)
      clear yf hRT9 hRB9
      go_wp2
      refine bodyPost_ret (v := .tuple #[flatV 0 0 (bs []), .bool false]) (by simp [results, Tryz.results103, go_sem, y0, y1, y2, y3]) rfl ?_
      rw [← HA.out]
      exact ⟨rfl, HF.out _ _ _ _⟩
    · rw [if_neg h60] at hA
      have h60z : (b.length : Int) ≤ 60 := by omega
      have hr := hereN_range s p
      have r0 := hRB.c0
      have r1 := hRB.c1
      have r2 := hRB.c2
      have HN := Lib.hid (next_any ae w0 bl s0 ba s p wr hRT)
      have HX := Lib.hid (And.intro hRB hown)
      obtain ⟨c, hc⟩ : ∃ c, hereN s p = c := ⟨_, rfl⟩
      rw [hc] at hA HN hr
      have HC := Lib.hid hc
      clear hRT hRB hown hc h60
      by_cases q1 : c = -1
      · rw [if_pos q1] at hA
        have HA := Lib.hid hA
        subst q1
        clear hA
        go_wp2_with fail
        refine HN.out.mono ?_
        rintro e w1 ⟨rfl, hRT9, hM1⟩
        have hRB9 := HX.out.1.call hM1
        clear r0 r1 r2 hM1
        obtain ⟨⟨y0, y1, y2, y3⟩, yf⟩ := hRB9.res
        have yf0 := yf 0
        have yf1 := yf 1
        have yf2 := yf 2
        have yf3 := yf 3
        have HF := Lib.hid (fin4 hws hlb hls (stepN s p) w1 hRT9 hRB9)
        clear yf hRT9 hRB9
        go_wp2
        refine bodyPost_ret (v := .tuple #[flatV 0 0 (bs []), .bool false]) (by simp [results, Tryz.results103, go_sem, y0, y1, y2, y3]) rfl ?_
        rw [← HA.out]
        exact ⟨rfl, HF.out _ _ _ _⟩
      · rw [if_neg q1] at hA
        have q1b : (c == -1) = false := by simpa using q1
        by_cases q2 : c = 34
        · rw [if_pos q2] at hA
          have HA := Lib.hid hA
          subst q2
          clear hA q1 q1b
          go_wp2_with fail
          refine HN.out.mono ?_
          rintro e w1 ⟨rfl, hRT9, hM1⟩
          have hRB9 := HX.out.1.call hM1
          have hown9 := Kit.ownsRow_moved HX.out.2 hM1 (fun k hk hk2 => by omega)
          have hconv := Kit.conv_own (P := Tryz.prog) hown9 rfl Tryz.underlying99 Tryz.underlying5 Tryz.underlying9
          have HT := Lib.hid (rightText_any ae (strOfNums b) (by rw [strOfNums_size]; omega) w1 hRT9.Env)
          have H9 := Lib.hid (And.intro hRT9 hRB9)
          clear r0 r1 r2 hM1 hown9 hRT9 hRB9
          go_wp2_with fail
          refine HT.out.mono ?_
          rintro e w2 ⟨rfl, hB2⟩
          have hRT9 := H9.out.1.later hB2
          have hRB9 := H9.out.2.later hB2
          obtain ⟨⟨y0, y1, y2, y3⟩, yf⟩ := hRB9.res
          have yf0 := yf 0
          have yf1 := yf 1
          have yf2 := yf 2
          have yf3 := yf 3
          have HF := Lib.hid (fin4 hws hlb hls (stepN s p) w2 hRT9 hRB9)
          clear yf hRT9 hRB9 hconv
          go_wp2
          refine bodyPost_ret (v := .tuple #[flatV 2 0 (strOfNums b), .bool (rightT (strOfNums b))]) (by simp [results, Tryz.results103, go_sem, y0, y1, y2, y3]) rfl ?_
          rw [← HA.out]
          exact ⟨rfl, HF.out _ _ _ _⟩
        · rw [if_neg q2] at hA
          have q2b : (c == 34) = false := by simpa using q2
          by_cases q3 : c = 92
          · rw [if_pos q3] at hA
            subst q3
            clear q1 q1b q2 q2b
            have hr2 := hereN_range s (stepN s p)
            obtain ⟨c2, hc2⟩ : ∃ c2, hereN s (stepN s p) = c2 := ⟨_, rfl⟩
            rw [hc2] at hA hr2
            by_cases q4 : c2 ≠ 34 ∧ c2 ≠ 92
            · rw [if_pos q4] at hA
              have HA := Lib.hid hA
              have q4a : (c2 != 34) = true := by simpa using q4.1
              have q4b : (c2 != 92) = true := by simpa using q4.2
              have HC2 := Lib.hid hc2
              clear hA q4 hc2
              go_wp2_with fail
              refine HN.out.mono ?_
              rintro e w1 ⟨rfl, hRT1, hM1⟩
              have hRB1 := HX.out.1.call hM1
              have t0 := hRB1.c0
              have t1 := hRB1.c1
              have t2 := hRB1.c2
              have hn2 := next_any ae w0 bl s0 ba s (stepN s p) w1 hRT1
              rw [HC2.out] at hn2
              have HN2 := Lib.hid hn2
              have HX1 := Lib.hid hRB1
              clear r0 r1 r2 hM1 hRT1 hRB1 hn2
              go_wp2_with fail
              refine HN2.out.mono ?_
              rintro e w2 ⟨rfl, hRT9, hM2⟩
              have hRB9 := HX1.out.call hM2
              clear t0 t1 t2 hM2
              obtain ⟨⟨y0, y1, y2, y3⟩, yf⟩ := hRB9.res
              have yf0 := yf 0
              have yf1 := yf 1
              have yf2 := yf 2
              have yf3 := yf 3
              have HF := Lib.hid (fin4 hws hlb hls (stepN s (stepN s p)) w2 hRT9 hRB9)
              clear yf hRT9 hRB9
              go_wp2
              refine bodyPost_ret (v := .tuple #[flatV 0 0 (bs []), .bool false]) (by simp [results, Tryz.results103, go_sem, y0, y1, y2, y3]) rfl ?_
              rw [← HA.out]
              exact ⟨rfl, HF.out _ _ _ _⟩
            · rw [if_neg q4] at hA
              have HA := Lib.hid hA
              have q5 : ((c2 != 34) = false) ∨ ((c2 != 34) = true ∧ (c2 != 92) = false) := by
                by_cases h : c2 = 34
                · left; simpa using h
                · right; exact ⟨by simpa using h, by simp; omega⟩
              have HC2 := Lib.hid hc2
              clear hA q4 hc2
              rcases q5 with q5 | ⟨q5, q6⟩
              all_goals
                go_wp2_with fail
                refine HN.out.mono ?_
                rintro e w1 ⟨rfl, hRT1, hM1⟩
                have hRB1 := HX.out.1.call hM1
                have t0 := hRB1.c0
                have t1 := hRB1.c1
                have t2 := hRB1.c2
                have hn2 := next_any ae w0 bl s0 ba s (stepN s p) w1 hRT1
                rw [HC2.out] at hn2
                have HN2 := Lib.hid hn2
                have HX1 := Lib.hid hRB1
                have hz1 := hM1.size
                have HO1 := Lib.hid (Kit.ownsRow_moved HX.out.2 hM1 (fun k hk hk2 => by omega))
                clear r0 r1 r2 hM1 hRT1 hRB1 hn2
                go_wp2_with fail
                refine HN2.out.mono ?_
                rintro e w2 ⟨rfl, hRT9, hM2⟩
                have hRB9 := HX1.out.call hM2
                have hz2 := hM2.size
                have hown9 := Kit.ownsRow_moved HO1.out hM2 (fun k hk hk2 => by omega)
                have hsz9 : w.heap.size + 2 ≤ w2.heap.size := by omega
                clear t0 t1 t2 hM2
                go_wp2_with fail
                refine (Tryz.utf8_AppendRune_plain (w.heap.size + 2) (.slice a1 b.length c1) b.length (b.map (Value.int .u8)) c2 (by omega) (by omega) _ hown9 (by omega) hsz9).mono ?_
                rintro e w8 ⟨v', rfl, hown8, o, hgr⟩
                have hlen := Lib.encodeRuneZ_length c2
                have hg8 := (World.grownBy_alloc w2 o (Value.slice a1 b.length c1).ownBlock).andThen hgr (fun j e => .inr e)
                have hm8 : Moved (fun j => w.heap.size + 2 ≤ j) w2 w8 := (Kit.Moved.of_grownBy hg8).mono fun j _ hj => (hown9.lt j hj).1
                have hRT8 := hRT9.moved hm8 (fun k hk => by omega) (by omega) (by omega) (by omega)
                have hRB8 := hRB9.step hm8 (fun j hj => by omega)
                have hz8 := hm8.size
                have hl2 : (b ++ Lib.encodeRuneZ c2).length = b.length + (Lib.encodeRuneZ c2).length := List.length_append
                have hown7 : w8.ownsRow (w.heap.size + 2) 5 1 v' (b ++ Lib.encodeRuneZ c2).length ((b ++ Lib.encodeRuneZ c2).map (Value.int .u8)) := by
                  rw [hl2, List.map_append, ← runeCells_map, ← runeCells_len]; exact hown8
                obtain ⟨a2, k2, hv2⟩ : ∃ a2 k2, v' = .slice a2 (b ++ Lib.encodeRuneZ c2).length k2 := by
                  rcases hown7.2 with ⟨h1, h2⟩ | ⟨g, cap, cur, h1, _⟩
                  · exact ⟨none, 0, by rw [h1, h2]⟩
                  · exact ⟨_, _, h1⟩
                have H8 := Lib.hid (And.intro hRT8 (And.intro hRB8 (And.intro hown7 hv2)))
                clear hRT8 hRB8 hown7 hv2 hown8 hgr hg8 hm8 hown9 hRT9 hRB9 hsz9
                go_wp2
                go_roundg g'
                case rel => exact ⟨b ++ Lib.encodeRuneZ c2, stepN s (stepN s p), ⟨a2, k2, H8.out.2.2.2⟩, by omega, HA.out, by omega, by omega, H8.out.1, H8.out.2.1, H8.out.2.2.1, by omega⟩
                case measure => omega
          · rw [if_neg q3] at hA
            have HA := Lib.hid hA
            have q3b : (c == 92) = false := by simpa using q3
            clear hA q1 q2 q3
            go_wp2_with fail
            refine HN.out.mono ?_
            rintro e w1 ⟨rfl, hRT9, hM1⟩
            have hRB9 := HX.out.1.call hM1
            have hz1 := hM1.size
            have hown9 := Kit.ownsRow_moved HX.out.2 hM1 (fun k hk hk2 => by omega)
            have hsz9 : w.heap.size + 2 ≤ w1.heap.size := by omega
            clear r0 r1 r2 hM1
            go_wp2_with fail
            refine (Tryz.utf8_AppendRune_plain (w.heap.size + 2) (.slice a1 b.length c1) b.length (b.map (Value.int .u8)) c (by omega) (by omega) _ hown9 (by omega) hsz9).mono ?_
            rintro e w8 ⟨v', rfl, hown8, o, hgr⟩
            have hlen := Lib.encodeRuneZ_length c
            have hg8 := (World.grownBy_alloc w1 o (Value.slice a1 b.length c1).ownBlock).andThen hgr (fun j e => .inr e)
            have hm8 : Moved (fun j => w.heap.size + 2 ≤ j) w1 w8 := (Kit.Moved.of_grownBy hg8).mono fun j _ hj => (hown9.lt j hj).1
            have hRT8 := hRT9.moved hm8 (fun k hk => by omega) (by omega) (by omega) (by omega)
            have hRB8 := hRB9.step hm8 (fun j hj => by omega)
            have hz8 := hm8.size
            have hl2 : (b ++ Lib.encodeRuneZ c).length = b.length + (Lib.encodeRuneZ c).length := List.length_append
            have hown7 : w8.ownsRow (w.heap.size + 2) 5 1 v' (b ++ Lib.encodeRuneZ c).length ((b ++ Lib.encodeRuneZ c).map (Value.int .u8)) := by
              rw [hl2, List.map_append, ← runeCells_map, ← runeCells_len]; exact hown8
            obtain ⟨a2, k2, hv2⟩ : ∃ a2 k2, v' = .slice a2 (b ++ Lib.encodeRuneZ c).length k2 := by
              rcases hown7.2 with ⟨h1, h2⟩ | ⟨g, cap, cur, h1, _⟩
              · exact ⟨none, 0, by rw [h1, h2]⟩
              · exact ⟨_, _, h1⟩
            have H8 := Lib.hid (And.intro hRT8 (And.intro hRB8 (And.intro hown7 hv2)))
            clear hRT8 hRB8 hown7 hv2 hown8 hgr hg8 hm8 hown9 hRT9 hRB9 hsz9
            go_wp2
            go_roundg g'
            case rel => exact ⟨b ++ Lib.encodeRuneZ c, stepN s p, ⟨a2, k2, H8.out.2.2.2⟩, by omega, HA.out, by omega, by omega, H8.out.1, H8.out.2.1, H8.out.2.2.1, by omega⟩
            case measure => omega
end Go.Proofs.YtbmhlpojgiminaaGreatDoor.Val
/- Layer 3: reading a value that is no list. -/
namespace Go.Proofs.YtbmhlpojgiminaaGreatDoor.Val
open Go.RowKit
open Kit (ret_int ret_bool Moved)

/-- A value that is no list, read: it, whether it is right, and the place. -/
def itemN (s : ByteArray) (a : Nat) : (Vl × Bool) × Nat :=
  if hereN s a = 34 then txtN s (stepN s a)
  else if hereN s a = 64 then ((flat 3 (refN s (stepN s a)).1 (bs []), refOk (refN s (stepN s a)).1), (refN s (stepN s a)).2)
  else if hereN s a = 126 then ((flat 4 (refN s (stepN s a)).1 (bs []), refOk (refN s (stepN s a)).1), (refN s (stepN s a)).2)
  else if hereN s a = 48 then ((flat 1 0 (bs []), true), stepN s a)
  else if hereN s a = 45 then
    (if 0 < (digN s 1000000000000000 (stepN s a)).1 then ((flat 1 (-(digN s 1000000000000000 (stepN s a)).1) (bs []), true), (digN s 1000000000000000 (stepN s a)).2) else ((flat 0 0 (bs []), true), (digN s 1000000000000000 (stepN s a)).2))
  else ((flat 1 (digN s 1000000000000000 a).1 (bs []), decide (0 < (digN s 1000000000000000 a).1)), (digN s 1000000000000000 a).2)

theorem eq_false_of {c d : Int} (h : ¬ c = d) : (c == d) = false := by simpa using h
theorem eq_true_of {c d : Int} (h : c = d) : (c == d) = true := by simpa using h

/-- What item finds when it begins. -/
structure IB (ae : Addr) (w0 w : World) (bl s0 ba : Nat) (s : ByteArray) (a : Nat) (W0 : World) : Prop where
  rt : RT ae w0 bl s0 ba s a W0
  rb : RB w bl ba W0
  ws : w0.heap.size ≤ w.heap.size
  lb : bl < w.heap.size
  ls : s0 < w.heap.size
theorem item_begins {ae : Addr} {w0 w : World} {bl s0 ba : Nat} {s : ByteArray} {a : Nat} (h : RT ae w0 bl s0 ba s a w) {W0 : World} (hW0 : W0 = (w.alloc (.cells #[rf3 bl, rf4 bl ba, rf5 ba] 69)).alloc (.cells #[.int .i64 0, .int .i64 0, .string ⟨#[]⟩, .slice none 0 0] 30)) :
    IB ae w0 w bl s0 ba s a W0 :=
  ⟨h.later (by rw [hW0]; exact Kit.below_alloc2 _ _ _), by rw [hW0]; exact rb_begins w bl ba h.boxA.lt _ rfl, h.below.size, h.boxL.lt, h.boxS.lt⟩
theorem IB.call {ae : Addr} {w0 w : World} {bl s0 ba : Nat} {s : ByteArray} {a b : Nat} {W0 W1 : World} (h : IB ae w0 w bl s0 ba s a W0) (hRT : RT ae w0 bl s0 ba s b W1) (hM : Moved (fun k => k = ba) W0 W1) : IB ae w0 w bl s0 ba s b W1 :=
  ⟨hRT, h.rb.call hM, h.ws, h.lb, h.ls⟩
theorem IB.fin {ae : Addr} {w0 w : World} {bl s0 ba : Nat} {s : ByteArray} {a : Nat} {w2 : World} (h : IB ae w0 w bl s0 ba s a w2) (v0 v1 v2 v3 : Value) :
    RT ae w0 bl s0 ba s a ((((w2.setCell ⟨w.heap.size + 1, 0, none⟩ v0).setCell ⟨w.heap.size + 1, 1, none⟩ v1).setCell ⟨w.heap.size + 1, 2, none⟩ v2).setCell ⟨w.heap.size + 1, 3, none⟩ v3) ∧ Moved (fun k => k = ba) w ((((w2.setCell ⟨w.heap.size + 1, 0, none⟩ v0).setCell ⟨w.heap.size + 1, 1, none⟩ v1).setCell ⟨w.heap.size + 1, 2, none⟩ v2).setCell ⟨w.heap.size + 1, 3, none⟩ v3) :=
  fin4 h.ws h.lb h.ls a w2 h.rt h.rb v0 v1 v2 v3
/-- Written out. -/
theorem IB.cells {ae : Addr} {w0 w : World} {bl s0 ba : Nat} {s : ByteArray} {a : Nat} {w2 : World} (h : IB ae w0 w bl s0 ba s a w2) :
    w2.cell? ⟨w.heap.size, 0, none⟩ = some (rf3 bl) ∧ w2.cell? ⟨w.heap.size, 1, none⟩ = some (rf4 bl ba) ∧ w2.cell? ⟨w.heap.size, 2, none⟩ = some (rf5 ba) := ⟨h.rb.c0, h.rb.c1, h.rb.c2⟩
theorem IB.res {ae : Addr} {w0 w : World} {bl s0 ba : Nat} {s : ByteArray} {a : Nat} {w2 : World} (h : IB ae w0 w bl s0 ba s a w2) :
    (w2.cell? ⟨w.heap.size + 1, 0, none⟩ = some (.int .i64 0) ∧ w2.cell? ⟨w.heap.size + 1, 1, none⟩ = some (.int .i64 0) ∧ w2.cell? ⟨w.heap.size + 1, 2, none⟩ = some (.string ⟨#[]⟩) ∧ w2.cell? ⟨w.heap.size + 1, 3, none⟩ = some (.slice none 0 0)) ∧
      (w2.frozen? ⟨w.heap.size + 1, 0, none⟩ = false ∧ w2.frozen? ⟨w.heap.size + 1, 1, none⟩ = false ∧ w2.frozen? ⟨w.heap.size + 1, 2, none⟩ = false ∧ w2.frozen? ⟨w.heap.size + 1, 3, none⟩ = false) :=
  ⟨h.rb.res.c, h.rb.res.f 0, h.rb.res.f 1, h.rb.res.f 2, h.rb.res.f 3⟩

set_option maxRecDepth 100000 in
set_option maxHeartbeats 4000000 in
theorem item_any (ae : Addr) (w0 : World) (bl s0 ba : Nat) (s : ByteArray) (a : Nat) (w : World) (h : RT ae w0 bl s0 ba s a w) :
    Calls Tryz.prog 84 #[ruV bl ba] w (TxtPost ae w0 w bl s0 ba s (itemN s a)) := by
  obtain ⟨W0, hW0⟩ : ∃ W0, W0 = (w.alloc (.cells #[rf3 bl, rf4 bl ba, rf5 ba] 69)).alloc (.cells #[.int .i64 0, .int .i64 0, .string ⟨#[]⟩, .slice none 0 0] 30) := ⟨_, rfl⟩
  have I0 := Lib.hid (item_begins h hW0)
  clear h
  unfold itemN
  by_cases hc : hereN s a = 34
  · rw [if_pos hc]
    obtain ⟨c1, c2, c3⟩ := I0.out.cells
    go_enter Tryz.func84, Tryz.ntmps84
    go_wp2_with fail
    rw [← hW0]
    clear hW0
    refine (skip_yes ae w0 bl s0 ba s a 34 _ I0.out.rt (eq_true_of hc)).mono ?_
    rintro e w1 ⟨rfl, hRT, hM⟩
    have I1 := Lib.hid (I0.out.call hRT hM)
    obtain ⟨r1, r2, r3⟩ := I1.out.cells
    clear hRT hM c1 c2 c3
    have c1 := r1
    have c2 := r2
    have c3 := r3
    clear r1 r2 r3
    have HT := Lib.hid (text_read ae w0 bl s0 ba s (stepN s a) w1 I1.out.rt)
    generalize txtN s (stepN s a) = A at *
    obtain ⟨⟨x, ok⟩, p⟩ := A
    unfold TxtPost at HT ⊢
    dsimp only at HT ⊢
    go_wp2_with fail
    refine HT.out.mono ?_
    rintro e w2 ⟨rfl, hRT, hM⟩
    have I2 := Lib.hid (I1.out.call hRT hM)
    clear hRT hM
    obtain ⟨⟨y0, y1, y2, y3⟩, yf0, yf1, yf2, yf3⟩ := I2.out.res
    clear c1 c2 c3
    go_wp2
    refine bodyPost_ret (v := .tuple #[flatV x.k x.n x.s, .bool ok]) (by simp [results, Tryz.results84, go_sem, y0, y1, y2, y3]) rfl ?_
    exact ⟨rfl, I2.out.fin _ _ _ _⟩
  · rw [if_neg hc]
    have n34 := hc
    clear hc
    by_cases hc : hereN s a = 64
    · rw [if_pos hc]
      obtain ⟨c1, c2, c3⟩ := I0.out.cells
      go_enter Tryz.func84, Tryz.ntmps84
      go_wp2_with fail
      rw [← hW0]
      clear hW0
      refine (skip_no ae w0 bl s0 ba s a 34 _ I0.out.rt (eq_false_of n34)).mono ?_
      rintro e w1 ⟨rfl, hRT, hM⟩
      have I1 := Lib.hid (I0.out.call hRT hM)
      obtain ⟨r1, r2, r3⟩ := I1.out.cells
      clear hRT hM c1 c2 c3
      have c1 := r1
      have c2 := r2
      have c3 := r3
      clear r1 r2 r3
      go_wp2_with fail
      refine (skip_yes ae w0 bl s0 ba s a 64 _ I1.out.rt (eq_true_of hc)).mono ?_
      rintro e w2 ⟨rfl, hRT, hM⟩
      have I2 := Lib.hid (I1.out.call hRT hM)
      obtain ⟨r1, r2, r3⟩ := I2.out.cells
      clear hRT hM c1 c2 c3
      have c1 := r1
      have c2 := r2
      have c3 := r3
      clear r1 r2 r3
      have HT := Lib.hid (reference_any ae w0 bl s0 ba s (stepN s a) 3 w2 I2.out.rt)
      generalize refN s (stepN s a) = A at *
      obtain ⟨x, p⟩ := A
      unfold TxtPost
      dsimp only at HT ⊢
      go_wp2_with fail
      refine HT.out.mono ?_
      rintro e w3 ⟨rfl, hRT, hM⟩
      have I3 := Lib.hid (I2.out.call hRT hM)
      clear hRT hM
      obtain ⟨⟨y0, y1, y2, y3⟩, yf0, yf1, yf2, yf3⟩ := I3.out.res
      clear c1 c2 c3
      go_wp2
      refine bodyPost_ret (v := .tuple #[flatV 3 x (bs []), .bool (refOk x)]) (by simp [results, Tryz.results84, go_sem, y0, y1, y2, y3]) rfl ?_
      exact ⟨rfl, I3.out.fin _ _ _ _⟩
    · rw [if_neg hc]
      have n64 := hc
      clear hc
      by_cases hc : hereN s a = 126
      · rw [if_pos hc]
        obtain ⟨c1, c2, c3⟩ := I0.out.cells
        go_enter Tryz.func84, Tryz.ntmps84
        go_wp2_with fail
        rw [← hW0]
        clear hW0
        refine (skip_no ae w0 bl s0 ba s a 34 _ I0.out.rt (eq_false_of n34)).mono ?_
        rintro e w1 ⟨rfl, hRT, hM⟩
        have I1 := Lib.hid (I0.out.call hRT hM)
        obtain ⟨r1, r2, r3⟩ := I1.out.cells
        clear hRT hM c1 c2 c3
        have c1 := r1
        have c2 := r2
        have c3 := r3
        clear r1 r2 r3
        go_wp2_with fail
        refine (skip_no ae w0 bl s0 ba s a 64 _ I1.out.rt (eq_false_of n64)).mono ?_
        rintro e w2 ⟨rfl, hRT, hM⟩
        have I2 := Lib.hid (I1.out.call hRT hM)
        obtain ⟨r1, r2, r3⟩ := I2.out.cells
        clear hRT hM c1 c2 c3
        have c1 := r1
        have c2 := r2
        have c3 := r3
        clear r1 r2 r3
        go_wp2_with fail
        refine (skip_yes ae w0 bl s0 ba s a 126 _ I2.out.rt (eq_true_of hc)).mono ?_
        rintro e w3 ⟨rfl, hRT, hM⟩
        have I3 := Lib.hid (I2.out.call hRT hM)
        obtain ⟨r1, r2, r3⟩ := I3.out.cells
        clear hRT hM c1 c2 c3
        have c1 := r1
        have c2 := r2
        have c3 := r3
        clear r1 r2 r3
        have HT := Lib.hid (reference_any ae w0 bl s0 ba s (stepN s a) 4 w3 I3.out.rt)
        generalize refN s (stepN s a) = A at *
        obtain ⟨x, p⟩ := A
        unfold TxtPost
        dsimp only at HT ⊢
        go_wp2_with fail
        refine HT.out.mono ?_
        rintro e w4 ⟨rfl, hRT, hM⟩
        have I4 := Lib.hid (I3.out.call hRT hM)
        clear hRT hM
        obtain ⟨⟨y0, y1, y2, y3⟩, yf0, yf1, yf2, yf3⟩ := I4.out.res
        clear c1 c2 c3
        go_wp2
        refine bodyPost_ret (v := .tuple #[flatV 4 x (bs []), .bool (refOk x)]) (by simp [results, Tryz.results84, go_sem, y0, y1, y2, y3]) rfl ?_
        exact ⟨rfl, I4.out.fin _ _ _ _⟩
      · rw [if_neg hc]
        have n126 := hc
        clear hc
        by_cases hc : hereN s a = 48
        · rw [if_pos hc]
          obtain ⟨c1, c2, c3⟩ := I0.out.cells
          go_enter Tryz.func84, Tryz.ntmps84
          go_wp2_with fail
          rw [← hW0]
          clear hW0
          refine (skip_no ae w0 bl s0 ba s a 34 _ I0.out.rt (eq_false_of n34)).mono ?_
          rintro e w1 ⟨rfl, hRT, hM⟩
          have I1 := Lib.hid (I0.out.call hRT hM)
          obtain ⟨r1, r2, r3⟩ := I1.out.cells
          clear hRT hM c1 c2 c3
          have c1 := r1
          have c2 := r2
          have c3 := r3
          clear r1 r2 r3
          go_wp2_with fail
          refine (skip_no ae w0 bl s0 ba s a 64 _ I1.out.rt (eq_false_of n64)).mono ?_
          rintro e w2 ⟨rfl, hRT, hM⟩
          have I2 := Lib.hid (I1.out.call hRT hM)
          obtain ⟨r1, r2, r3⟩ := I2.out.cells
          clear hRT hM c1 c2 c3
          have c1 := r1
          have c2 := r2
          have c3 := r3
          clear r1 r2 r3
          go_wp2_with fail
          refine (skip_no ae w0 bl s0 ba s a 126 _ I2.out.rt (eq_false_of n126)).mono ?_
          rintro e w3 ⟨rfl, hRT, hM⟩
          have I3 := Lib.hid (I2.out.call hRT hM)
          obtain ⟨r1, r2, r3⟩ := I3.out.cells
          clear hRT hM c1 c2 c3
          have c1 := r1
          have c2 := r2
          have c3 := r3
          clear r1 r2 r3
          go_wp2_with fail
          refine (skip_yes ae w0 bl s0 ba s a 48 _ I3.out.rt (eq_true_of hc)).mono ?_
          rintro e w4 ⟨rfl, hRT, hM⟩
          have I4 := Lib.hid (I3.out.call hRT hM)
          obtain ⟨r1, r2, r3⟩ := I4.out.cells
          clear hRT hM c1 c2 c3
          have c1 := r1
          have c2 := r2
          have c3 := r3
          clear r1 r2 r3
          unfold TxtPost
          dsimp only
          obtain ⟨⟨y0, y1, y2, y3⟩, yf0, yf1, yf2, yf3⟩ := I4.out.res
          clear c1 c2 c3
          go_wp2
          refine bodyPost_ret (v := .tuple #[flatV 1 0 (bs []), .bool true]) (by simp [results, Tryz.results84, go_sem, y0, y1, y2, y3]) rfl ?_
          exact ⟨rfl, I4.out.fin _ _ _ _⟩
        · rw [if_neg hc]
          have n48 := hc
          clear hc
          by_cases hc : hereN s a = 45
          · rw [if_pos hc]
            have hdi := digN_in s 1000000000000000 (stepN s a) (by decide) (stepN_le s a I0.out.rt.hi)
            obtain ⟨hx0, hx1, _⟩ := hdi
            by_cases hx : 0 < (digN s 1000000000000000 (stepN s a)).1
            · rw [if_pos hx]
              obtain ⟨c1, c2, c3⟩ := I0.out.cells
              go_enter Tryz.func84, Tryz.ntmps84
              go_wp2_with fail
              rw [← hW0]
              clear hW0
              refine (skip_no ae w0 bl s0 ba s a 34 _ I0.out.rt (eq_false_of n34)).mono ?_
              rintro e w1 ⟨rfl, hRT, hM⟩
              have I1 := Lib.hid (I0.out.call hRT hM)
              obtain ⟨r1, r2, r3⟩ := I1.out.cells
              clear hRT hM c1 c2 c3
              have c1 := r1
              have c2 := r2
              have c3 := r3
              clear r1 r2 r3
              go_wp2_with fail
              refine (skip_no ae w0 bl s0 ba s a 64 _ I1.out.rt (eq_false_of n64)).mono ?_
              rintro e w2 ⟨rfl, hRT, hM⟩
              have I2 := Lib.hid (I1.out.call hRT hM)
              obtain ⟨r1, r2, r3⟩ := I2.out.cells
              clear hRT hM c1 c2 c3
              have c1 := r1
              have c2 := r2
              have c3 := r3
              clear r1 r2 r3
              go_wp2_with fail
              refine (skip_no ae w0 bl s0 ba s a 126 _ I2.out.rt (eq_false_of n126)).mono ?_
              rintro e w3 ⟨rfl, hRT, hM⟩
              have I3 := Lib.hid (I2.out.call hRT hM)
              obtain ⟨r1, r2, r3⟩ := I3.out.cells
              clear hRT hM c1 c2 c3
              have c1 := r1
              have c2 := r2
              have c3 := r3
              clear r1 r2 r3
              go_wp2_with fail
              refine (skip_no ae w0 bl s0 ba s a 48 _ I3.out.rt (eq_false_of n48)).mono ?_
              rintro e w4 ⟨rfl, hRT, hM⟩
              have I4 := Lib.hid (I3.out.call hRT hM)
              obtain ⟨r1, r2, r3⟩ := I4.out.cells
              clear hRT hM c1 c2 c3
              have c1 := r1
              have c2 := r2
              have c3 := r3
              clear r1 r2 r3
              go_wp2_with fail
              refine (skip_yes ae w0 bl s0 ba s a 45 _ I4.out.rt (eq_true_of hc)).mono ?_
              rintro e w5 ⟨rfl, hRT, hM⟩
              have I5 := Lib.hid (I4.out.call hRT hM)
              obtain ⟨r1, r2, r3⟩ := I5.out.cells
              clear hRT hM c1 c2 c3
              have c1 := r1
              have c2 := r2
              have c3 := r3
              clear r1 r2 r3
              have HT := Lib.hid (digits_any ae w0 bl s0 ba s (stepN s a) 1000000000000000 (by decide) (by decide) w5 I5.out.rt)
              rw [decide_eq_true (by omega)] at HT
              generalize digN s 1000000000000000 (stepN s a) = A at *
              obtain ⟨x, p⟩ := A
              unfold TxtPost
              dsimp only at HT hx hx0 hx1 ⊢
              go_wp2_with fail
              refine HT.out.mono ?_
              rintro e w6 ⟨rfl, hRT, hM⟩
              have I6 := Lib.hid (I5.out.call hRT hM)
              clear hRT hM
              obtain ⟨⟨y0, y1, y2, y3⟩, yf0, yf1, yf2, yf3⟩ := I6.out.res
              clear c1 c2 c3
              go_wp2
              refine bodyPost_ret (v := .tuple #[flatV 1 (-x) (bs []), .bool true]) (by simp [results, Tryz.results84, go_sem, y0, y1, y2, y3]) rfl ?_
              exact ⟨rfl, I6.out.fin _ _ _ _⟩
            · rw [if_neg hx]
              obtain ⟨c1, c2, c3⟩ := I0.out.cells
              go_enter Tryz.func84, Tryz.ntmps84
              go_wp2_with fail
              rw [← hW0]
              clear hW0
              refine (skip_no ae w0 bl s0 ba s a 34 _ I0.out.rt (eq_false_of n34)).mono ?_
              rintro e w1 ⟨rfl, hRT, hM⟩
              have I1 := Lib.hid (I0.out.call hRT hM)
              obtain ⟨r1, r2, r3⟩ := I1.out.cells
              clear hRT hM c1 c2 c3
              have c1 := r1
              have c2 := r2
              have c3 := r3
              clear r1 r2 r3
              go_wp2_with fail
              refine (skip_no ae w0 bl s0 ba s a 64 _ I1.out.rt (eq_false_of n64)).mono ?_
              rintro e w2 ⟨rfl, hRT, hM⟩
              have I2 := Lib.hid (I1.out.call hRT hM)
              obtain ⟨r1, r2, r3⟩ := I2.out.cells
              clear hRT hM c1 c2 c3
              have c1 := r1
              have c2 := r2
              have c3 := r3
              clear r1 r2 r3
              go_wp2_with fail
              refine (skip_no ae w0 bl s0 ba s a 126 _ I2.out.rt (eq_false_of n126)).mono ?_
              rintro e w3 ⟨rfl, hRT, hM⟩
              have I3 := Lib.hid (I2.out.call hRT hM)
              obtain ⟨r1, r2, r3⟩ := I3.out.cells
              clear hRT hM c1 c2 c3
              have c1 := r1
              have c2 := r2
              have c3 := r3
              clear r1 r2 r3
              go_wp2_with fail
              refine (skip_no ae w0 bl s0 ba s a 48 _ I3.out.rt (eq_false_of n48)).mono ?_
              rintro e w4 ⟨rfl, hRT, hM⟩
              have I4 := Lib.hid (I3.out.call hRT hM)
              obtain ⟨r1, r2, r3⟩ := I4.out.cells
              clear hRT hM c1 c2 c3
              have c1 := r1
              have c2 := r2
              have c3 := r3
              clear r1 r2 r3
              go_wp2_with fail
              refine (skip_yes ae w0 bl s0 ba s a 45 _ I4.out.rt (eq_true_of hc)).mono ?_
              rintro e w5 ⟨rfl, hRT, hM⟩
              have I5 := Lib.hid (I4.out.call hRT hM)
              obtain ⟨r1, r2, r3⟩ := I5.out.cells
              clear hRT hM c1 c2 c3
              have c1 := r1
              have c2 := r2
              have c3 := r3
              clear r1 r2 r3
              have HT := Lib.hid (digits_any ae w0 bl s0 ba s (stepN s a) 1000000000000000 (by decide) (by decide) w5 I5.out.rt)
              rw [decide_eq_false (by omega)] at HT
              generalize digN s 1000000000000000 (stepN s a) = A at *
              obtain ⟨x, p⟩ := A
              unfold TxtPost
              dsimp only at HT hx hx0 hx1 ⊢
              go_wp2_with fail
              refine HT.out.mono ?_
              rintro e w6 ⟨rfl, hRT, hM⟩
              have I6 := Lib.hid (I5.out.call hRT hM)
              clear hRT hM
              obtain ⟨⟨y0, y1, y2, y3⟩, yf0, yf1, yf2, yf3⟩ := I6.out.res
              clear c1 c2 c3
              go_wp2
              refine bodyPost_ret (v := .tuple #[flatV 0 0 (bs []), .bool true]) (by simp [results, Tryz.results84, go_sem, y0, y1, y2, y3]) rfl ?_
              exact ⟨rfl, I6.out.fin _ _ _ _⟩
          · rw [if_neg hc]
            have n45 := hc
            clear hc
            obtain ⟨c1, c2, c3⟩ := I0.out.cells
            go_enter Tryz.func84, Tryz.ntmps84
            go_wp2_with fail
            rw [← hW0]
            clear hW0
            refine (skip_no ae w0 bl s0 ba s a 34 _ I0.out.rt (eq_false_of n34)).mono ?_
            rintro e w1 ⟨rfl, hRT, hM⟩
            have I1 := Lib.hid (I0.out.call hRT hM)
            obtain ⟨r1, r2, r3⟩ := I1.out.cells
            clear hRT hM c1 c2 c3
            have c1 := r1
            have c2 := r2
            have c3 := r3
            clear r1 r2 r3
            go_wp2_with fail
            refine (skip_no ae w0 bl s0 ba s a 64 _ I1.out.rt (eq_false_of n64)).mono ?_
            rintro e w2 ⟨rfl, hRT, hM⟩
            have I2 := Lib.hid (I1.out.call hRT hM)
            obtain ⟨r1, r2, r3⟩ := I2.out.cells
            clear hRT hM c1 c2 c3
            have c1 := r1
            have c2 := r2
            have c3 := r3
            clear r1 r2 r3
            go_wp2_with fail
            refine (skip_no ae w0 bl s0 ba s a 126 _ I2.out.rt (eq_false_of n126)).mono ?_
            rintro e w3 ⟨rfl, hRT, hM⟩
            have I3 := Lib.hid (I2.out.call hRT hM)
            obtain ⟨r1, r2, r3⟩ := I3.out.cells
            clear hRT hM c1 c2 c3
            have c1 := r1
            have c2 := r2
            have c3 := r3
            clear r1 r2 r3
            go_wp2_with fail
            refine (skip_no ae w0 bl s0 ba s a 48 _ I3.out.rt (eq_false_of n48)).mono ?_
            rintro e w4 ⟨rfl, hRT, hM⟩
            have I4 := Lib.hid (I3.out.call hRT hM)
            obtain ⟨r1, r2, r3⟩ := I4.out.cells
            clear hRT hM c1 c2 c3
            have c1 := r1
            have c2 := r2
            have c3 := r3
            clear r1 r2 r3
            go_wp2_with fail
            refine (skip_no ae w0 bl s0 ba s a 45 _ I4.out.rt (eq_false_of n45)).mono ?_
            rintro e w5 ⟨rfl, hRT, hM⟩
            have I5 := Lib.hid (I4.out.call hRT hM)
            obtain ⟨r1, r2, r3⟩ := I5.out.cells
            clear hRT hM c1 c2 c3
            have c1 := r1
            have c2 := r2
            have c3 := r3
            clear r1 r2 r3
            have HT := Lib.hid (digits_any ae w0 bl s0 ba s a 1000000000000000 (by decide) (by decide) w5 I5.out.rt)
            generalize digN s 1000000000000000 a = A at *
            obtain ⟨x, p⟩ := A
            unfold TxtPost
            dsimp only at HT ⊢
            go_wp2_with fail
            refine HT.out.mono ?_
            rintro e w6 ⟨rfl, hRT, hM⟩
            have I6 := Lib.hid (I5.out.call hRT hM)
            clear hRT hM
            obtain ⟨⟨y0, y1, y2, y3⟩, yf0, yf1, yf2, yf3⟩ := I6.out.res
            clear c1 c2 c3
            go_wp2
            refine bodyPost_ret (v := .tuple #[flatV 1 x (bs []), .bool (decide (0 < x))]) (by simp [results, Tryz.results84, go_sem, y0, y1, y2, y3]) rfl ?_
            exact ⟨rfl, I6.out.fin _ _ _ _⟩
end Go.Proofs.YtbmhlpojgiminaaGreatDoor.Val
/- Layer 3: reading a list. -/
namespace Go.Proofs.YtbmhlpojgiminaaGreatDoor.Val
open Go.RowKit
open Kit (ret_int ret_bool Moved)

/-- What stands behind a list's bracket: it, whether it is right, and the place. -/
def lstF (s : ByteArray) : Nat → List Vl → Nat → (Vl × Bool) × Nat
  | 0, _, a => ((flat 0 0 (bs []), false), a)
  | g + 1, l, a =>
    if 12 ≤ l.length then ((flat 0 0 (bs []), false), a)
    else if (itemN s a).1.2 = false then ((flat 0 0 (bs []), false), (itemN s a).2)
    else if hereN s (itemN s a).2 = 93 then ((.mk 5 0 (bs []) (l ++ [(itemN s a).1.1]), true), stepN s (itemN s a).2)
    else if hereN s (itemN s a).2 = 32 then lstF s g (l ++ [(itemN s a).1.1]) (stepN s (itemN s a).2)
    else ((flat 0 0 (bs []), false), (itemN s a).2)
def lstN (s : ByteArray) (a : Nat) : (Vl × Bool) × Nat := if hereN s a = 93 then ((.mk 5 0 (bs []) [], true), stepN s a) else lstF s 13 [] a

theorem txtF_flat (s : ByteArray) : ∀ (g : Nat) (b : List Int) (a : Nat), (txtF s g b a).1.1.isFlat
  | 0, _, _ => rfl
  | g + 1, b, a => by
    rw [txtF]
    split
    · rfl
    · split
      · rfl
      · split
        · rfl
        · split
          · split
            · rfl
            · exact txtF_flat s g _ _
          · exact txtF_flat s g _ _
theorem itemN_flat (s : ByteArray) (a : Nat) : (itemN s a).1.1.isFlat := by
  unfold itemN
  split
  · exact txtF_flat s _ _ _
  · split
    · rfl
    · split
      · rfl
      · split
        · rfl
        · split
          · split <;> rfl
          · rfl

theorem lstF_flat (s : ByteArray) : ∀ (g : Nat) (l : List Vl) (a : Nat), (∀ x ∈ l, x.isFlat) → ∀ y ∈ (lstF s g l a).1.1.l, y.isFlat
  | 0, _, _, _, y, hy => by cases hy
  | g + 1, l, a, hl, y, hy => by
    have hl2 : ∀ x ∈ l ++ [(itemN s a).1.1], x.isFlat := fun x hx => by
      rcases List.mem_append.1 hx with hx | hx
      · exact hl x hx
      · rw [List.mem_singleton.1 hx]; exact itemN_flat s a
    rw [lstF] at hy
    split at hy
    · cases hy
    · split at hy
      · cases hy
      · split at hy
        · exact hl2 y hy
        · split at hy
          · exact lstF_flat s g _ _ hl2 y hy
          · cases hy
theorem lstN_flat (s : ByteArray) (a : Nat) : ∀ y ∈ (lstN s a).1.1.l, y.isFlat := by
  unfold lstN
  split
  · intro y hy; cases hy
  · exact lstF_flat s _ _ _ (fun _ h => by cases h)

/-- What is answered, with its list, and what stands then. -/
def LstPost (ae : Addr) (w0 w : World) (bl s0 ba : Nat) (s : ByteArray) (A : (Vl × Bool) × Nat) (e : Ending) (w' : World) : Prop :=
  (∃ lv, e = .returned (.tuple #[aggV A.1.1.k A.1.1.n A.1.1.s lv, .bool A.1.2]) ∧ RepL w'.heap.size w' A.1.1.l lv ∧ Fresh w.heap.size lv) ∧ RT ae w0 bl s0 ba s A.2 w' ∧ Moved (fun k => k = ba) w w'

/-- What stands in the round of reading a list. -/
structure LK (ae : Addr) (w0 w : World) (bl s0 ba : Nat) (s : ByteArray) (l : List Vl) (lv : Value) (p : Nat) (wx : World) : Prop where
  ib : IB ae w0 w bl s0 ba s p wx
  v : BoxF wx (w.heap.size + 2) (.int .i64 5) (.int .i64 0) (.string ⟨#[]⟩) lv
  row : wx.ownsRow (w.heap.size + 3) 30 4 lv l.length (l.flatMap cellsF)
  nil : l.length = 0 → lv = .slice none 0 0
  fl : ∀ x ∈ l, x.isFlat
  sz : w.heap.size + 3 ≤ wx.heap.size
theorem LK.call {ae : Addr} {w0 w : World} {bl s0 ba : Nat} {s : ByteArray} {l : List Vl} {lv : Value} {p q : Nat} {wx w' : World} (h : LK ae w0 w bl s0 ba s l lv p wx) (hRT : RT ae w0 bl s0 ba s q w') (hM : Moved (fun k => k = ba) wx w') : LK ae w0 w bl s0 ba s l lv q w' := by
  have := h.ib.rb.ab
  exact ⟨h.ib.call hRT hM, h.v.moved hM (by omega), Kit.ownsRow_moved h.row hM (fun k hk hk2 => by omega), h.nil, h.fl, by have := hM.size; have := h.sz; omega⟩
theorem LK.later {ae : Addr} {w0 w : World} {bl s0 ba : Nat} {s : ByteArray} {l : List Vl} {lv : Value} {p : Nat} {wx w' : World} (h : LK ae w0 w bl s0 ba s l lv p wx) (hB : Below wx.heap.size wx w') : LK ae w0 w bl s0 ba s l lv p w' := by
  have hz := h.sz
  exact ⟨⟨h.ib.rt.later hB, h.ib.rb.later hB, h.ib.ws, h.ib.lb, h.ib.ls⟩, h.v.moved (Kit.Moved.of_below hB) (by omega), Kit.ownsRow_kept h.row (fun k hk => hB.block k (h.row.lt k hk).2), h.nil, h.fl, by have := hB.size; omega⟩
/-- The list that is answered: behind the answer's own cells. -/
theorem LK.ans {ae : Addr} {w0 w : World} {bl s0 ba : Nat} {s : ByteArray} {l : List Vl} {lv : Value} {p : Nat} {wx : World} (h : LK ae w0 w bl s0 ba s l lv p wx) (v0 v1 v2 v3 : Value) :
    RepL ((((wx.setCell ⟨w.heap.size + 1, 0, none⟩ v0).setCell ⟨w.heap.size + 1, 1, none⟩ v1).setCell ⟨w.heap.size + 1, 2, none⟩ v2).setCell ⟨w.heap.size + 1, 3, none⟩ v3).heap.size ((((wx.setCell ⟨w.heap.size + 1, 0, none⟩ v0).setCell ⟨w.heap.size + 1, 1, none⟩ v1).setCell ⟨w.heap.size + 1, 2, none⟩ v2).setCell ⟨w.heap.size + 1, 3, none⟩ v3) l lv ∧ Fresh w.heap.size lv := by
  refine ⟨repL_own (e := 30) (base := w.heap.size + 3) (Kit.ownsRow_kept h.row fun j hj => ?_) rfl h.fl h.nil, fun j hj => by have := (h.row.lt j hj).1; omega⟩
  have := h.row.lt j hj
  exact (end4b (w.heap.size + 1) wx v0 v1 v2 v3).block j this.2 (by omega)
theorem LK.grow {ae : Addr} {w0 w : World} {bl s0 ba : Nat} {s : ByteArray} {l : List Vl} {lv : Value} {p : Nat} {wx w6 : World} {o : Obj} (h : LK ae w0 w bl s0 ba s l lv p wx) (hg : (wx.alloc o).grownBy w6 lv.ownBlock) :
    w6.cell? ⟨w.heap.size + 2, 3, none⟩ = some lv ∧ w6.frozen? ⟨w.heap.size + 2, 3, none⟩ = false ∧ w6.cell? ⟨w.heap.size, 0, none⟩ = some (rf3 bl) ∧ w6.cell? ⟨w.heap.size, 1, none⟩ = some (rf4 bl ba) ∧ w6.cell? ⟨w.heap.size, 2, none⟩ = some (rf5 ba) := by
  have hl := h.later (Kit.below_alloc wx o)
  have hm : Moved (fun j => w.heap.size + 3 ≤ j) (wx.alloc o) w6 := (Kit.Moved.of_grownBy hg).mono fun j _ hj => (h.row.lt j hj).1
  have := hl.v.moved hm (by omega)
  exact ⟨this.c.2.2.2, this.f 3, cell_moved hl.ib.rb.c0 hm (by omega), cell_moved hl.ib.rb.c1 hm (by omega), cell_moved hl.ib.rb.c2 hm (by omega)⟩
theorem LK.push {ae : Addr} {w0 w : World} {bl s0 ba : Nat} {s : ByteArray} {l : List Vl} {lv v' : Value} {p : Nat} {wx w6 : World} {o : Obj} {x : Vl} (h : LK ae w0 w bl s0 ba s l lv p wx) (hx : x.isFlat) (hg : (wx.alloc o).grownBy w6 lv.ownBlock)
    (hown : w6.ownsRow (w.heap.size + 3) 30 4 v' (l.length + 1) (l.flatMap cellsF ++ cellsF x)) : LK ae w0 w bl s0 ba s (l ++ [x]) v' p (w6.setCell ⟨w.heap.size + 2, 3, none⟩ v') := by
  have hl := h.later (Kit.below_alloc wx o)
  have hm : Moved (fun j => w.heap.size + 3 ≤ j) (wx.alloc o) w6 := (Kit.Moved.of_grownBy hg).mono fun j _ hj => (h.row.lt j hj).1
  have hms : Moved (fun j => j = w.heap.size + 2) w6 (w6.setCell ⟨w.heap.size + 2, 3, none⟩ v') := Kit.Moved.setCell _ _ _ _ rfl
  have hmt : Moved (fun j => w.heap.size + 2 ≤ j) (wx.alloc o) (w6.setCell ⟨w.heap.size + 2, 3, none⟩ v') := (hm.mono (T := fun j => w.heap.size + 2 ≤ j) (fun j _ hj => by omega)).trans hms (fun j _ hj => by omega)
  have hab := h.ib.rb.ab
  have hlb := h.ib.lb
  have hls := h.ib.ls
  have hws := h.ib.ws
  have hsz := hl.sz
  have hz6 := hmt.size
  refine ⟨⟨hl.ib.rt.moved hmt (fun k hk => by omega) (by omega) (by omega) (by omega), hl.ib.rb.step hmt (fun j hj => by omega), hws, hlb, hls⟩, (hl.v.moved hm (by omega)).set3 v', ?_, ?_, ?_, by omega⟩
  · rw [List.length_append, List.flatMap_append, List.flatMap_singleton]
    exact Kit.ownsRow_kept hown fun j hj => hms.block j (hown.lt j hj).2 (by have := (hown.lt j hj).1; omega)
  · intro h0; simp at h0
  · intro y hy
    rcases List.mem_append.1 hy with hy | hy
    · exact h.fl y hy
    · rw [List.mem_singleton.1 hy]; exact hx
theorem LK.slice {ae : Addr} {w0 w : World} {bl s0 ba : Nat} {s : ByteArray} {l : List Vl} {lv : Value} {p : Nat} {wx : World} (h : LK ae w0 w bl s0 ba s l lv p wx) : ∃ a1 c1, lv = .slice a1 l.length c1 := by
  rcases h.row.2 with ⟨h1, h2⟩ | ⟨g, cap, cur, h1, _⟩
  · exact ⟨none, 0, by rw [h1, h2]⟩
  · exact ⟨_, _, h1⟩

set_option maxRecDepth 100000 in
set_option maxHeartbeats 4000000 in
theorem list_read (ae : Addr) (w0 : World) (bl s0 ba : Nat) (s : ByteArray) (a : Nat) (w : World) (h : RT ae w0 bl s0 ba s a w) :
    Calls Tryz.prog 83 #[ruV bl ba] w (LstPost ae w0 w bl s0 ba s (lstN s a)) := by
  obtain ⟨W0, hW0⟩ : ∃ W0, W0 = (w.alloc (.cells #[rf3 bl, rf4 bl ba, rf5 ba] 69)).alloc (.cells #[.int .i64 0, .int .i64 0, .string ⟨#[]⟩, .slice none 0 0] 30) := ⟨_, rfl⟩
  have hI := item_begins h hW0
  have hz0 : W0.heap.size = w.heap.size + 2 := by rw [hW0]; simp
  have hX := boxF_new W0 (.int .i64 5) (.int .i64 0) (.string ⟨#[]⟩) (.slice none 0 0) 30
  rw [hz0] at hX
  have hB0 := Kit.below_alloc W0 (.cells #[.int .i64 5, .int .i64 0, .string ⟨#[]⟩, .slice none 0 0] 30)
  have K0 := Lib.hid (show LK ae w0 w bl s0 ba s [] (.slice none 0 0) a (W0.alloc (.cells #[.int .i64 5, .int .i64 0, .string ⟨#[]⟩, .slice none 0 0] 30)) from
    ⟨⟨hI.rt.later hB0, hI.rb.later hB0, hI.ws, hI.lb, hI.ls⟩, hX, World.ownsRow_nil _ _ _ _, fun _ => rfl, (fun _ h => by cases h), by rw [World.size_alloc]; omega⟩)
  have HZ := Lib.hid hz0
  clear h hI hz0 hX hB0
  obtain ⟨c1, c2, c3⟩ := K0.out.ib.cells
  unfold lstN
  by_cases hc : hereN s a = 93
  · rw [if_pos hc]
    go_enter Tryz.func83, Tryz.ntmps83
    go_wp2_with fail
    change Calls _ _ _ (((w.alloc (.cells #[rf3 bl, rf4 bl ba, rf5 ba] 69)).alloc (.cells #[.int .i64 0, .int .i64 0, .string ⟨#[]⟩, .slice none 0 0] 30)).alloc (.cells #[.int .i64 5, .int .i64 0, .string ⟨#[]⟩, .slice none 0 0] 30)) _
    rw [← hW0]
    clear hW0
    refine (skip_yes ae w0 bl s0 ba s a 93 _ K0.out.ib.rt (eq_true_of hc)).mono ?_
    rintro e w1 ⟨rfl, hRT, hM⟩
    have K1 := Lib.hid (K0.out.call hRT hM)
    clear hRT hM c1 c2 c3
    obtain ⟨⟨y0, y1, y2, y3⟩, yf0, yf1, yf2, yf3⟩ := K1.out.ib.res
    obtain ⟨⟨x0, x1, x2, x3⟩, _⟩ := K1.out.v
    have HF := Lib.hid (K1.out.ib.fin (.int .i64 5) (.int .i64 0) (.string (bs [])) (.slice none 0 0))
    have HN := Lib.hid (K1.out.ans)
    go_wp2
    refine bodyPost_ret (v := .tuple #[aggV 5 0 (bs []) (.slice none 0 0), .bool true]) (by simp [results, Tryz.results83, go_sem, y0, y1, y2, y3]) rfl ?_
    exact ⟨⟨_, rfl, HN.out _ _ _ _⟩, HF.out.1, HF.out.2⟩
  · rw [if_neg hc]
    obtain ⟨ANS, hANS⟩ : ∃ ANS, lstF s 13 [] a = ANS := ⟨_, rfl⟩
    rw [hANS]
    obtain ⟨i0, hi0, hz0, hz1, hz2⟩ := info_parts vInfo3
    go_enter Tryz.func83, Tryz.ntmps83
    go_wp2_with fail
    change Calls _ _ _ (((w.alloc (.cells #[rf3 bl, rf4 bl ba, rf5 ba] 69)).alloc (.cells #[.int .i64 0, .int .i64 0, .string ⟨#[]⟩, .slice none 0 0] 30)).alloc (.cells #[.int .i64 5, .int .i64 0, .string ⟨#[]⟩, .slice none 0 0] 30)) _
    rw [← hW0]
    clear hW0
    refine (skip_no ae w0 bl s0 ba s a 93 _ K0.out.ib.rt (eq_false_of hc)).mono ?_
    rintro e w1 ⟨rfl, hRT, hM⟩
    have K1 := Lib.hid (K0.out.call hRT hM)
    clear hRT hM c1 c2 c3 hc
    go_wp2
    go_loopg [5, 6] 13 (fun gk _ _ wx => ∃ (l : List Vl) (lv : Value) (p : Nat), 1 ≤ gk ∧ lstF s gk l p = ANS ∧ 13 ≤ l.length + gk ∧ l.length ≤ 12 ∧ LK ae w0 w bl s0 ba s l lv p wx)
    case atStart => exact ⟨[], _, a, by omega, hANS, by simp, by simp, K1.out⟩
    case round =>
      obtain ⟨l, lv, p, hg1, hA, hg, hl12, hK⟩ := hrel
      obtain ⟨a1, c1, rfl⟩ := hK.slice
      obtain ⟨g', rfl⟩ : ∃ g', gk = g' + 1 := ⟨gk - 1, by omega⟩
      have KR := Lib.hid hK
      clear hANS K1 K0 hK
      rw [lstF] at hA
      have x3 := KR.out.v.c.2.2.2
      by_cases h12 : 12 ≤ l.length
      · rw [if_pos h12] at hA
        have HA := Lib.hid hA
        have h12z : ¬ (l.length : Int) < 12 := by omega
        clear hA
        obtain ⟨⟨y0, y1, y2, y3⟩, yf0, yf1, yf2, yf3⟩ := KR.out.ib.res
        have HF := Lib.hid (KR.out.ib.fin (.int .i64 0) (.int .i64 0) (.string (bs [])) (.slice none 0 0))
        go_wp2
        refine bodyPost_ret (v := .tuple #[flatV 0 0 (bs []), .bool false]) (by simp [results, Tryz.results83, go_sem, y0, y1, y2, y3]) rfl ?_
        rw [← HA.out]
        exact ⟨⟨_, rfl, .inl ⟨rfl, rfl⟩, fun j hj => by cases hj⟩, HF.out.1, HF.out.2⟩
      · rw [if_neg h12] at hA
        have h12z : (l.length : Int) < 12 := by omega
        obtain ⟨q1, q2, q3⟩ := KR.out.ib.cells
        have hfl := itemN_flat s p
        have HT := item_any ae w0 bl s0 ba s p wr KR.out.ib.rt
        generalize itemN s p = A at *
        obtain ⟨⟨x, ok⟩, r⟩ := A
        unfold TxtPost at HT
        dsimp only at HT hA hfl
        have HT2 := Lib.hid HT
        have HFL := Lib.hid hfl
        clear HT hfl
        cases ok
        · rw [if_pos rfl] at hA
          have HA := Lib.hid hA
          clear hA
          go_wp2_with fail
          refine HT2.out.mono ?_
          rintro e w2 ⟨rfl, hRT, hM⟩
          have K2 := Lib.hid ((KR.out.call hRT hM).later (Kit.below_alloc w2 (.cells #[.int .i64 x.k, .int .i64 x.n, .string x.s, .slice none 0 0] 30)))
          clear hRT hM q1 q2 q3 x3
          obtain ⟨⟨y0, y1, y2, y3⟩, yf0, yf1, yf2, yf3⟩ := K2.out.ib.res
          have HF := Lib.hid (K2.out.ib.fin (.int .i64 0) (.int .i64 0) (.string (bs [])) (.slice none 0 0))
          go_wp2
          refine bodyPost_ret (v := .tuple #[flatV 0 0 (bs []), .bool false]) (by simp [results, Tryz.results83, go_sem, y0, y1, y2, y3]) rfl ?_
          rw [← HA.out]
          exact ⟨⟨_, rfl, .inl ⟨rfl, rfl⟩, fun j hj => by cases hj⟩, HF.out.1, HF.out.2⟩
        · rw [if_neg (by simp)] at hA
          have HA0 := Lib.hid hA
          clear hA
          go_wp2_with fail
          refine HT2.out.mono ?_
          rintro e w2 ⟨rfl, hRT, hM⟩
          have y3 := (KR.out.call hRT hM).v.c.2.2.2
          have K2 := Lib.hid ((KR.out.call hRT hM).later (Kit.below_alloc w2 (.cells #[.int .i64 x.k, .int .i64 x.n, .string x.s, .slice none 0 0] 30)))
          clear hRT hM q1 q2 q3 x3
          have hlt : w.heap.size + 2 < w2.heap.size := Kit.lt_of_cell y3
          have x3 := y3
          clear y3
          go_upto_region 8 with (at_builtin; refine wpList_append_own _ rfl _ _ 28 rfl (w.heap.size + 3) 30 i0 (.agg zero4.toArray) 4 56 Tryz.underlying28 hi0 hz0 hz1 hz2 rfl (by decide) _ _ _ rfl (K2.out.row.alloc (.cells #[.int .i64 x.k, .int .i64 x.n, .string x.s, .slice none 0 0] 30)) ⟨w2.heap.size + 1, 0, none⟩ 1 1 (cellsF x) rfl rfl (fun j u hu => by rw [Addr.add_mid]; have := Kit.cell_new (w2.alloc (.cells #[.int .i64 x.k, .int .i64 x.n, .string x.s, .slice none 0 0] 30)) #[.int .i64 x.k, .int .i64 x.n, .string x.s, .slice none 0 0] 30 (0 + j) (v := u) (by simpa [cellsF, cellsV] using hu); rw [World.size_alloc] at this; exact this) (cellsF_one x) (by unfold maxLen; omega) (by omega) (by have := K2.out.sz; simp only [World.size_alloc] at this ⊢; omega) ?_; intro v' w6 hown' hgrow _; obtain ⟨g, cap, rfl, hgb, hgl⟩ := Kit.ownsRow_succ' hown'; have K6 := Lib.hid (K2.out.push HFL.out hgrow hown'); obtain ⟨z6, zf6, u0, u1, u2⟩ := K2.out.grow hgrow; clear hown' hgrow hgb hgl K2)
          by_cases q93 : hereN s r = 93
          · have HA := Lib.hid (HA0.out)
            rw [if_pos q93] at HA
            go_wp2_with fail
            refine (skip_yes ae w0 bl s0 ba s r 93 _ K6.out.ib.rt (eq_true_of q93)).mono ?_
            rintro e w7 ⟨rfl, hRT, hM⟩
            have K7 := Lib.hid (K6.out.call hRT hM)
            clear hRT hM u0 u1 u2 z6 zf6
            obtain ⟨⟨y0, y1, y2, y3⟩, yf0, yf1, yf2, yf3⟩ := K7.out.ib.res
            obtain ⟨⟨x0, x1, x2, x3⟩, _⟩ := K7.out.v
            have HF := Lib.hid (K7.out.ib.fin (.int .i64 5) (.int .i64 0) (.string (bs [])) (.slice (some ⟨g, 0, none⟩) (l.length + 1) cap))
            have HN := Lib.hid (K7.out.ans)
            go_wp2
            refine bodyPost_ret (v := .tuple #[aggV 5 0 (bs []) (.slice (some ⟨g, 0, none⟩) (l.length + 1) cap), .bool true]) (by simp [results, Tryz.results83, go_sem, y0, y1, y2, y3]) rfl ?_
            rw [← HA.out]
            exact ⟨⟨_, rfl, HN.out _ _ _ _⟩, HF.out.1, HF.out.2⟩
          · go_wp2_with fail
            refine (skip_no ae w0 bl s0 ba s r 93 _ K6.out.ib.rt (eq_false_of q93)).mono ?_
            rintro e w7 ⟨rfl, hRT, hM⟩
            have K7 := Lib.hid (K6.out.call hRT hM)
            obtain ⟨t0, t1, t2⟩ := K7.out.ib.cells
            clear hRT hM u0 u1 u2 z6 zf6
            by_cases q32 : hereN s r = 32
            · have HA := Lib.hid (HA0.out)
              rw [if_neg q93, if_pos q32] at HA
              go_wp2_with fail
              refine (skip_yes ae w0 bl s0 ba s r 32 _ K7.out.ib.rt (eq_true_of q32)).mono ?_
              rintro e w8 ⟨rfl, hRT, hM⟩
              have K8 := Lib.hid (K7.out.call hRT hM)
              clear hRT hM t0 t1 t2
              go_wp2
              go_roundg g'
              case rel => exact ⟨l ++ [x], _, stepN s r, by omega, HA.out, by simp; omega, by simp; omega, K8.out⟩
              case measure => omega
            · have HA := Lib.hid (HA0.out)
              rw [if_neg q93, if_neg q32] at HA
              go_wp2_with fail
              refine (skip_no ae w0 bl s0 ba s r 32 _ K7.out.ib.rt (eq_false_of q32)).mono ?_
              rintro e w8 ⟨rfl, hRT, hM⟩
              have K8 := Lib.hid (K7.out.call hRT hM)
              clear hRT hM t0 t1 t2
              obtain ⟨⟨y0, y1, y2, y3⟩, yf0, yf1, yf2, yf3⟩ := K8.out.ib.res
              have HF := Lib.hid (K8.out.ib.fin (.int .i64 0) (.int .i64 0) (.string (bs [])) (.slice none 0 0))
              go_wp2
              refine bodyPost_ret (v := .tuple #[flatV 0 0 (bs []), .bool false]) (by simp [results, Tryz.results83, go_sem, y0, y1, y2, y3]) rfl ?_
              rw [← HA.out]
              exact ⟨⟨_, rfl, .inl ⟨rfl, rfl⟩, fun j hj => by cases hj⟩, HF.out.1, HF.out.2⟩

set_option maxRecDepth 100000 in
set_option maxHeartbeats 1000000 in
/-- A value, read. -/
theorem value_read (ae : Addr) (w0 : World) (bl s0 ba : Nat) (s : ByteArray) (a : Nat) (w : World) (h : RT ae w0 bl s0 ba s a w) :
    Calls Tryz.prog 55 #[ruV bl ba] w (LstPost ae w0 w bl s0 ba s (if hereN s a = 91 then lstN s (stepN s a) else itemN s a)) := by
  obtain ⟨W0, hW0⟩ : ∃ W0, W0 = (w.alloc (.cells #[rf3 bl, rf4 bl ba, rf5 ba] 69)).alloc (.cells #[.int .i64 0, .int .i64 0, .string ⟨#[]⟩, .slice none 0 0] 30) := ⟨_, rfl⟩
  have I0 := Lib.hid (item_begins h hW0)
  have hz0 : w.heap.size ≤ W0.heap.size := by rw [hW0]; simp; omega
  clear h
  obtain ⟨c1, c2, c3⟩ := I0.out.cells
  by_cases hc : hereN s a = 91
  · rw [if_pos hc]
    go_enter Tryz.func55, Tryz.ntmps55
    go_wp2_with fail
    rw [← hW0]
    clear hW0
    refine (skip_yes ae w0 bl s0 ba s a 91 _ I0.out.rt (eq_true_of hc)).mono ?_
    rintro e w1 ⟨rfl, hRT, hM⟩
    have I1 := Lib.hid (I0.out.call hRT hM)
    obtain ⟨d1, d2, d3⟩ := I1.out.cells
    have hz1 := hM.size
    clear hRT hM c1 c2 c3
    have HT := list_read ae w0 bl s0 ba s (stepN s a) w1 I1.out.rt
    have hfl := lstN_flat s (stepN s a)
    generalize lstN s (stepN s a) = A at *
    obtain ⟨⟨x, ok⟩, p⟩ := A
    unfold LstPost at HT ⊢
    dsimp only at HT hfl ⊢
    have HFL := Lib.hid hfl
    clear hfl
    go_wp2_with fail
    refine HT.mono ?_
    rintro e w2 ⟨⟨lv, rfl, hL, hF⟩, hRT, hM⟩
    obtain ⟨a3, c3, rfl, z3⟩ := hL.len
    have I2 := Lib.hid (I1.out.call hRT hM)
    have HL := Lib.hid (And.intro hL hF)
    have hz2 := hM.size
    clear hRT hM d1 d2 d3 hL hF HT
    obtain ⟨⟨y0, y1, y2, y3⟩, yf0, yf1, yf2, yf3⟩ := I2.out.res
    have hzz : w.heap.size + 1 < w2.heap.size := Kit.lt_of_cell y3
    have hw1 : w.heap.size + 1 < w1.heap.size := I1.out.rb.res.c.lt
    have HF := Lib.hid (I2.out.fin (.int .i64 x.k) (.int .i64 x.n) (.string x.s) (.slice a3 x.l.length c3))
    go_wp2
    refine bodyPost_ret (v := .tuple #[aggV x.k x.n x.s (.slice a3 x.l.length c3), .bool ok]) (by simp [results, Tryz.results55, go_sem, y0, y1, y2, y3]) rfl ?_
    refine ⟨⟨_, rfl, ?_, fun j hj => by have := HL.out.2 j hj; omega⟩, HF.out.1, HF.out.2⟩
    refine HL.out.1.keep1 HFL.out (fun j hj => ?_) (by simp)
    have h1 := HL.out.1.lt j hj
    have h2 := HL.out.2 j hj
    exact (end4b (w.heap.size + 1) w2 _ _ _ _).block j h1 (by omega)
  · rw [if_neg hc]
    go_enter Tryz.func55, Tryz.ntmps55
    go_wp2_with fail
    rw [← hW0]
    clear hW0
    refine (skip_no ae w0 bl s0 ba s a 91 _ I0.out.rt (eq_false_of hc)).mono ?_
    rintro e w1 ⟨rfl, hRT, hM⟩
    have I1 := Lib.hid (I0.out.call hRT hM)
    obtain ⟨d1, d2, d3⟩ := I1.out.cells
    clear hRT hM c1 c2 c3
    have HT := item_any ae w0 bl s0 ba s a w1 I1.out.rt
    have hfl := itemN_flat s a
    generalize itemN s a = A at *
    obtain ⟨⟨x, ok⟩, p⟩ := A
    unfold TxtPost at HT
    unfold LstPost
    dsimp only at HT hfl ⊢
    have HFL := Lib.hid hfl
    clear hfl
    go_wp2_with fail
    refine HT.mono ?_
    rintro e w2 ⟨rfl, hRT, hM⟩
    have I2 := Lib.hid (I1.out.call hRT hM)
    clear hRT hM d1 d2 d3 HT
    obtain ⟨⟨y0, y1, y2, y3⟩, yf0, yf1, yf2, yf3⟩ := I2.out.res
    have HF := Lib.hid (I2.out.fin (.int .i64 x.k) (.int .i64 x.n) (.string x.s) (.slice none 0 0))
    go_wp2
    refine bodyPost_ret (v := .tuple #[flatV x.k x.n x.s, .bool ok]) (by simp [results, Tryz.results55, go_sem, y0, y1, y2, y3]) rfl ?_
    exact ⟨⟨_, rfl, .inl ⟨HFL.out, rfl⟩, fun j hj => by cases hj⟩, HF.out.1, HF.out.2⟩
end Go.Proofs.YtbmhlpojgiminaaGreatDoor.Val
