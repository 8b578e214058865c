/- Layer 3: reading a text. -/
import Derived.Test.YtmobnlofbopbeaaGreatDoorValRun3
import Derived.Test.YtmobnlofbopbeaaGreatDoorWireNum2
namespace Go.Proofs.YtmobnlofbopbeaaGreatDoor.Val
open Go.RowKit
open Kit (ret_int ret_bool Moved)

/-- What stands behind a text's first quote: the value, whether it is right, and the place. -/
def txtF (s : ByteArray) : Nat → List Int → Nat → (Vl × Bool) × Nat
  | 0, _, a => ((flat 0 0 (bs []), false), a)
  | g + 1, b, a =>
    if 60 < b.length then ((flat 0 0 (bs []), false), a)
    else if hereN s a = -1 then ((flat 0 0 (bs []), false), stepN s a)
    else if hereN s a = 34 then ((flat 2 0 (strOfNums b), rightT (strOfNums b)), stepN s a)
    else if hereN s a = 92 then
      (if hereN s (stepN s a) ≠ 34 ∧ hereN s (stepN s a) ≠ 92 then ((flat 0 0 (bs []), false), stepN s (stepN s a)) else txtF s g (b ++ Lib.encodeRuneZ (hereN s (stepN s a))) (stepN s (stepN s a)))
    else txtF s g (b ++ Lib.encodeRuneZ (hereN s a)) (stepN s a)
def txtN (s : ByteArray) (a : Nat) : (Vl × Bool) × Nat := txtF s 62 [] a

theorem runeCells_map (r : Int) : Lib.runeCells r = (Lib.encodeRuneZ r).map (Value.int .u8) := rfl

theorem runeCells_len (r : Int) : (Lib.runeCells r).length = (Lib.encodeRuneZ r).length := by rw [runeCells_map, List.length_map]

/-- What is answered, and what stands then. -/
def TxtPost (ae : Addr) (w0 w : World) (bl s0 ba : Nat) (s : ByteArray) (A : (Vl × Bool) × Nat) (e : Ending) (w' : World) : Prop :=
  e = .returned (.tuple #[flatV A.1.1.k A.1.1.n A.1.1.s, .bool A.1.2]) ∧ RT ae w0 bl s0 ba s A.2 w' ∧ Moved (fun k => k = ba) w w'

theorem fin4 {ae : Addr} {w0 w : World} {bl s0 ba : Nat} {s : ByteArray} (hws : w0.heap.size ≤ w.heap.size) (hlb : bl < w.heap.size) (hls : s0 < w.heap.size) (p : Nat) (w2 : World) (h1 : RT ae w0 bl s0 ba s p w2) (h2 : RB w bl ba w2) (v0 v1 v2 v3 : Value) :
    RT ae w0 bl s0 ba s p ((((w2.setCell ⟨w.heap.size + 1, 0, none⟩ v0).setCell ⟨w.heap.size + 1, 1, none⟩ v1).setCell ⟨w.heap.size + 1, 2, none⟩ v2).setCell ⟨w.heap.size + 1, 3, none⟩ v3) ∧ Moved (fun k => k = ba) w ((((w2.setCell ⟨w.heap.size + 1, 0, none⟩ v0).setCell ⟨w.heap.size + 1, 1, none⟩ v1).setCell ⟨w.heap.size + 1, 2, none⟩ v2).setCell ⟨w.heap.size + 1, 3, none⟩ v3) := by
  have hm := end4b (w.heap.size + 1) w2 v0 v1 v2 v3
  have := h2.ab
  exact ⟨h1.moved hm (fun k hk => by omega) (by omega) (by omega) (by omega), h2.moved.trans hm (fun i hi hs => by omega)⟩

set_option maxRecDepth 100000 in
set_option maxHeartbeats 4000000 in
theorem text_read (ae : Addr) (w0 : World) (bl s0 ba : Nat) (s : ByteArray) (a : Nat) (w : World) (h : RT ae w0 bl s0 ba s a w) :
    Calls Tryz.prog 131 #[ruV bl ba] w (TxtPost ae w0 w bl s0 ba s (txtN s a)) := by
  obtain ⟨W0, hW0⟩ : ∃ W0, W0 = (w.alloc (.cells #[rf3 bl, rf4 bl ba, rf5 ba] 82)).alloc (.cells #[.int .i64 0, .int .i64 0, .string ⟨#[]⟩, .slice none 0 0] 30) := ⟨_, rfl⟩
  have hB : Below w.heap.size w W0 := by rw [hW0]; exact Kit.below_alloc2 _ _ _
  have hz0 : W0.heap.size = w.heap.size + 2 := by rw [hW0]; simp
  have hRB : RB w bl ba W0 := by rw [hW0]; exact rb_begins w bl ba h.boxA.lt _ rfl
  have hRT := h.later hB
  have hws := h.below.size
  have hlb := h.boxL.lt
  have hls := h.boxS.lt
  have hla := h.boxA.lt
  have HR := Lib.hid (And.intro hRT hRB)
  have HZ := Lib.hid hz0
  clear h hRT hRB hB hz0
  obtain ⟨ANS, hANS⟩ : ∃ ANS, txtN s a = ANS := ⟨_, rfl⟩
  rw [hANS]
  obtain ⟨i0, hinf, hi0, hi1, hi2⟩ := info_parts Wire.info5
  go_enter Tryz.func131, Tryz.ntmps131
  go_wp2
  change Code.wp _ _ _ _ ((w.alloc (.cells #[rf3 bl, rf4 bl ba, rf5 ba] 82)).alloc (.cells #[.int .i64 0, .int .i64 0, .string ⟨#[]⟩, .slice none 0 0] 30))
  rw [← hW0]
  clear hW0
  go_loopg [4, 5, 6] 62 (fun gk v c t wx => ∃ (b : List Int) (p : Nat), (∃ a1 c1, v = .slice a1 b.length c1) ∧ 1 ≤ gk ∧ txtF s gk b p = ANS ∧ 61 < b.length + gk ∧ b.length ≤ 64 ∧ RT ae w0 bl s0 ba s p wx ∧ RB w bl ba wx ∧ wx.ownsRow (w.heap.size + 2) 5 1 v b.length (b.map (Value.int .u8)) ∧ w.heap.size + 2 ≤ wx.heap.size)
  case atStart => exact ⟨[], a, ⟨none, 0, rfl⟩, by omega, hANS, by simp, by simp, HR.out.1, HR.out.2, World.ownsRow_nil _ _ _ _, by rw [HZ.out]; omega⟩
  case round =>
    obtain ⟨b, p, ⟨a1, c1, rfl⟩, hg1, hA, hg, hb64, hRT, hRB, hown, hsz⟩ := hrel
    obtain ⟨g', rfl⟩ : ∃ g', gk = g' + 1 := ⟨gk - 1, by omega⟩
    clear hANS HR
    rw [txtF] at hA
    by_cases h60 : 60 < b.length
    · rw [if_pos h60] at hA
      have HA := Lib.hid hA
      have h60z : ¬ (b.length : Int) ≤ 60 := by omega
      have hRT9 := hRT
      have hRB9 := hRB
      clear hA hRT hRB
      obtain ⟨⟨y0, y1, y2, y3⟩, yf⟩ := hRB9.res
      have yf0 := yf 0
      have yf1 := yf 1
      have yf2 := yf 2
      have yf3 := yf 3
      have HF := Lib.hid (fin4 hws hlb hls p wr hRT9 hRB9)
      clear yf hRT9 hRB9
      go_wp2
      refine bodyPost_ret (v := .tuple #[flatV 0 0 (bs []), .bool false]) (by simp [results, Tryz.results131, go_sem, y0, y1, y2, y3]) rfl ?_
      rw [← HA.out]
      exact ⟨rfl, HF.out _ _ _ _⟩
    · rw [if_neg h60] at hA
      have h60z : (b.length : Int) ≤ 60 := by omega
      have hr := hereN_range s p
      have r0 := hRB.c0
      have r1 := hRB.c1
      have r2 := hRB.c2
      have HN := Lib.hid (next_any ae w0 bl s0 ba s p wr hRT)
      have HX := Lib.hid (And.intro hRB hown)
      obtain ⟨c, hc⟩ : ∃ c, hereN s p = c := ⟨_, rfl⟩
      rw [hc] at hA HN hr
      have HC := Lib.hid hc
      clear hRT hRB hown hc h60
      by_cases q1 : c = -1
      · rw [if_pos q1] at hA
        have HA := Lib.hid hA
        subst q1
        clear hA
        go_wp2_with fail
        refine HN.out.mono ?_
        rintro e w1 ⟨rfl, hRT9, hM1⟩
        have hRB9 := HX.out.1.call hM1
        clear r0 r1 r2 hM1
        obtain ⟨⟨y0, y1, y2, y3⟩, yf⟩ := hRB9.res
        have yf0 := yf 0
        have yf1 := yf 1
        have yf2 := yf 2
        have yf3 := yf 3
        have HF := Lib.hid (fin4 hws hlb hls (stepN s p) w1 hRT9 hRB9)
        clear yf hRT9 hRB9
        go_wp2
        refine bodyPost_ret (v := .tuple #[flatV 0 0 (bs []), .bool false]) (by simp [results, Tryz.results131, go_sem, y0, y1, y2, y3]) rfl ?_
        rw [← HA.out]
        exact ⟨rfl, HF.out _ _ _ _⟩
      · rw [if_neg q1] at hA
        have q1b : (c == -1) = false := by simpa using q1
        by_cases q2 : c = 34
        · rw [if_pos q2] at hA
          have HA := Lib.hid hA
          subst q2
          clear hA q1 q1b
          go_wp2_with fail
          refine HN.out.mono ?_
          rintro e w1 ⟨rfl, hRT9, hM1⟩
          have hRB9 := HX.out.1.call hM1
          have hown9 := Kit.ownsRow_moved HX.out.2 hM1 (fun k hk hk2 => by omega)
          have hconv := Kit.conv_own (P := Tryz.prog) hown9 rfl Tryz.underlying133 Tryz.underlying5 Tryz.underlying9
          have HT := Lib.hid (rightText_any ae (strOfNums b) (by rw [strOfNums_size]; omega) w1 hRT9.Env)
          have H9 := Lib.hid (And.intro hRT9 hRB9)
          clear r0 r1 r2 hM1 hown9 hRT9 hRB9
          go_wp2_with fail
          refine HT.out.mono ?_
          rintro e w2 ⟨rfl, hB2⟩
          have hRT9 := H9.out.1.later hB2
          have hRB9 := H9.out.2.later hB2
          obtain ⟨⟨y0, y1, y2, y3⟩, yf⟩ := hRB9.res
          have yf0 := yf 0
          have yf1 := yf 1
          have yf2 := yf 2
          have yf3 := yf 3
          have HF := Lib.hid (fin4 hws hlb hls (stepN s p) w2 hRT9 hRB9)
          clear yf hRT9 hRB9 hconv
          go_wp2
          refine bodyPost_ret (v := .tuple #[flatV 2 0 (strOfNums b), .bool (rightT (strOfNums b))]) (by simp [results, Tryz.results131, go_sem, y0, y1, y2, y3]) rfl ?_
          rw [← HA.out]
          exact ⟨rfl, HF.out _ _ _ _⟩
        · rw [if_neg q2] at hA
          have q2b : (c == 34) = false := by simpa using q2
          by_cases q3 : c = 92
          · rw [if_pos q3] at hA
            subst q3
            clear q1 q1b q2 q2b
            have hr2 := hereN_range s (stepN s p)
            obtain ⟨c2, hc2⟩ : ∃ c2, hereN s (stepN s p) = c2 := ⟨_, rfl⟩
            rw [hc2] at hA hr2
            by_cases q4 : c2 ≠ 34 ∧ c2 ≠ 92
            · rw [if_pos q4] at hA
              have HA := Lib.hid hA
              have q4a : (c2 != 34) = true := by simpa using q4.1
              have q4b : (c2 != 92) = true := by simpa using q4.2
              have HC2 := Lib.hid hc2
              clear hA q4 hc2
              go_wp2_with fail
              refine HN.out.mono ?_
              rintro e w1 ⟨rfl, hRT1, hM1⟩
              have hRB1 := HX.out.1.call hM1
              have t0 := hRB1.c0
              have t1 := hRB1.c1
              have t2 := hRB1.c2
              have hn2 := next_any ae w0 bl s0 ba s (stepN s p) w1 hRT1
              rw [HC2.out] at hn2
              have HN2 := Lib.hid hn2
              have HX1 := Lib.hid hRB1
              clear r0 r1 r2 hM1 hRT1 hRB1 hn2
              go_wp2_with fail
              refine HN2.out.mono ?_
              rintro e w2 ⟨rfl, hRT9, hM2⟩
              have hRB9 := HX1.out.call hM2
              clear t0 t1 t2 hM2
              obtain ⟨⟨y0, y1, y2, y3⟩, yf⟩ := hRB9.res
              have yf0 := yf 0
              have yf1 := yf 1
              have yf2 := yf 2
              have yf3 := yf 3
              have HF := Lib.hid (fin4 hws hlb hls (stepN s (stepN s p)) w2 hRT9 hRB9)
              clear yf hRT9 hRB9
              go_wp2
              refine bodyPost_ret (v := .tuple #[flatV 0 0 (bs []), .bool false]) (by simp [results, Tryz.results131, go_sem, y0, y1, y2, y3]) rfl ?_
              rw [← HA.out]
              exact ⟨rfl, HF.out _ _ _ _⟩
            · rw [if_neg q4] at hA
              have HA := Lib.hid hA
              have q5 : ((c2 != 34) = false) ∨ ((c2 != 34) = true ∧ (c2 != 92) = false) := by
                by_cases h : c2 = 34
                · left; simpa using h
                · right; exact ⟨by simpa using h, by simp; omega⟩
              have HC2 := Lib.hid hc2
              clear hA q4 hc2
              rcases q5 with q5 | ⟨q5, q6⟩
              all_goals
                go_wp2_with fail
                refine HN.out.mono ?_
                rintro e w1 ⟨rfl, hRT1, hM1⟩
                have hRB1 := HX.out.1.call hM1
                have t0 := hRB1.c0
                have t1 := hRB1.c1
                have t2 := hRB1.c2
                have hn2 := next_any ae w0 bl s0 ba s (stepN s p) w1 hRT1
                rw [HC2.out] at hn2
                have HN2 := Lib.hid hn2
                have HX1 := Lib.hid hRB1
                have hz1 := hM1.size
                have HO1 := Lib.hid (Kit.ownsRow_moved HX.out.2 hM1 (fun k hk hk2 => by omega))
                clear r0 r1 r2 hM1 hRT1 hRB1 hn2
                go_wp2_with fail
                refine HN2.out.mono ?_
                rintro e w2 ⟨rfl, hRT9, hM2⟩
                have hRB9 := HX1.out.call hM2
                have hz2 := hM2.size
                have hown9 := Kit.ownsRow_moved HO1.out hM2 (fun k hk hk2 => by omega)
                have hsz9 : w.heap.size + 2 ≤ w2.heap.size := by omega
                clear t0 t1 t2 hM2
                go_wp2_with fail
                refine (Tryz.utf8_AppendRune_plain (w.heap.size + 2) (.slice a1 b.length c1) b.length (b.map (Value.int .u8)) c2 (by omega) (by omega) _ hown9 (by omega) hsz9).mono ?_
                rintro e w8 ⟨v', rfl, hown8, o, hgr⟩
                have hlen := Lib.encodeRuneZ_length c2
                have hg8 := (World.grownBy_alloc w2 o (Value.slice a1 b.length c1).ownBlock).andThen hgr (fun j e => .inr e)
                have hm8 : Moved (fun j => w.heap.size + 2 ≤ j) w2 w8 := (Kit.Moved.of_grownBy hg8).mono fun j _ hj => (hown9.lt j hj).1
                have hRT8 := hRT9.moved hm8 (fun k hk => by omega) (by omega) (by omega) (by omega)
                have hRB8 := hRB9.step hm8 (fun j hj => by omega)
                have hz8 := hm8.size
                have hl2 : (b ++ Lib.encodeRuneZ c2).length = b.length + (Lib.encodeRuneZ c2).length := List.length_append
                have hown7 : w8.ownsRow (w.heap.size + 2) 5 1 v' (b ++ Lib.encodeRuneZ c2).length ((b ++ Lib.encodeRuneZ c2).map (Value.int .u8)) := by
                  rw [hl2, List.map_append, ← runeCells_map, ← runeCells_len]; exact hown8
                obtain ⟨a2, k2, hv2⟩ : ∃ a2 k2, v' = .slice a2 (b ++ Lib.encodeRuneZ c2).length k2 := by
                  rcases hown7.2 with ⟨h1, h2⟩ | ⟨g, cap, cur, h1, _⟩
                  · exact ⟨none, 0, by rw [h1, h2]⟩
                  · exact ⟨_, _, h1⟩
                have H8 := Lib.hid (And.intro hRT8 (And.intro hRB8 (And.intro hown7 hv2)))
                clear hRT8 hRB8 hown7 hv2 hown8 hgr hg8 hm8 hown9 hRT9 hRB9 hsz9
                go_wp2
                go_roundg g'
                case rel => exact ⟨b ++ Lib.encodeRuneZ c2, stepN s (stepN s p), ⟨a2, k2, H8.out.2.2.2⟩, by omega, HA.out, by omega, by omega, H8.out.1, H8.out.2.1, H8.out.2.2.1, by omega⟩
                case measure => omega
          · rw [if_neg q3] at hA
            have HA := Lib.hid hA
            have q3b : (c == 92) = false := by simpa using q3
            clear hA q1 q2 q3
            go_wp2_with fail
            refine HN.out.mono ?_
            rintro e w1 ⟨rfl, hRT9, hM1⟩
            have hRB9 := HX.out.1.call hM1
            have hz1 := hM1.size
            have hown9 := Kit.ownsRow_moved HX.out.2 hM1 (fun k hk hk2 => by omega)
            have hsz9 : w.heap.size + 2 ≤ w1.heap.size := by omega
            clear r0 r1 r2 hM1
            go_wp2_with fail
            refine (Tryz.utf8_AppendRune_plain (w.heap.size + 2) (.slice a1 b.length c1) b.length (b.map (Value.int .u8)) c (by omega) (by omega) _ hown9 (by omega) hsz9).mono ?_
            rintro e w8 ⟨v', rfl, hown8, o, hgr⟩
            have hlen := Lib.encodeRuneZ_length c
            have hg8 := (World.grownBy_alloc w1 o (Value.slice a1 b.length c1).ownBlock).andThen hgr (fun j e => .inr e)
            have hm8 : Moved (fun j => w.heap.size + 2 ≤ j) w1 w8 := (Kit.Moved.of_grownBy hg8).mono fun j _ hj => (hown9.lt j hj).1
            have hRT8 := hRT9.moved hm8 (fun k hk => by omega) (by omega) (by omega) (by omega)
            have hRB8 := hRB9.step hm8 (fun j hj => by omega)
            have hz8 := hm8.size
            have hl2 : (b ++ Lib.encodeRuneZ c).length = b.length + (Lib.encodeRuneZ c).length := List.length_append
            have hown7 : w8.ownsRow (w.heap.size + 2) 5 1 v' (b ++ Lib.encodeRuneZ c).length ((b ++ Lib.encodeRuneZ c).map (Value.int .u8)) := by
              rw [hl2, List.map_append, ← runeCells_map, ← runeCells_len]; exact hown8
            obtain ⟨a2, k2, hv2⟩ : ∃ a2 k2, v' = .slice a2 (b ++ Lib.encodeRuneZ c).length k2 := by
              rcases hown7.2 with ⟨h1, h2⟩ | ⟨g, cap, cur, h1, _⟩
              · exact ⟨none, 0, by rw [h1, h2]⟩
              · exact ⟨_, _, h1⟩
            have H8 := Lib.hid (And.intro hRT8 (And.intro hRB8 (And.intro hown7 hv2)))
            clear hRT8 hRB8 hown7 hv2 hown8 hgr hg8 hm8 hown9 hRT9 hRB9 hsz9
            go_wp2
            go_roundg g'
            case rel => exact ⟨b ++ Lib.encodeRuneZ c, stepN s p, ⟨a2, k2, H8.out.2.2.2⟩, by omega, HA.out, by omega, by omega, H8.out.1, H8.out.2.1, H8.out.2.2.1, by omega⟩
            case measure => omega
end Go.Proofs.YtmobnlofbopbeaaGreatDoor.Val
