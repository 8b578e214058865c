/- Layer 3: Compare, of any values: the order, plainly. -/
import Derived.Test.YtbmhlpojgiminaaGreatDoorProg
import Derived.Test.YtbmhlpojgiminaaGreatDoorVal
import Derived.WalkLawsBesides
import Derived.WalkSpells
import Derived.StillTailTactics
import Derived.Deep.QuietTactic
import Derived.BigQuiet
import Derived.Lib.Hide
import Derived.Deep.Cut
import Derived.Outline
import Derived.Test.YtbmhlpojgiminaaGreatDoorBox
namespace Go.Proofs.YtbmhlpojgiminaaGreatDoor.Val
open Go.RowKit
open Kit (ret_int ret_bool)

def cmpI (a b : Int) : Int := if a < b then -1 else if b < a then 1 else 0
def cmpS (a b : ByteArray) : Int := if Op.bytesLess a.toList b.toList then -1 else if a.toList == b.toList then 0 else 1
mutual
def cmpV : Vl → Vl → Int
  | .mk k n s l, .mk k' n' s' l' => if cmpI k k' ≠ 0 then cmpI k k' else if cmpI n n' ≠ 0 then cmpI n n' else if cmpS s s' ≠ 0 then cmpS s s' else cmpL l l'
def cmpL : List Vl → List Vl → Int
  | [], [] => 0
  | [], _ :: _ => -1
  | _ :: _, [] => 1
  | x :: r, y :: q => if cmpV x y ≠ 0 then cmpV x y else cmpL r q
end

theorem isNaN_int (a : Int) (w : World) : Calls Tryz.prog 73 #[.int .i64 a] w fun e w' => e = .returned (.bool false) ∧ w = w' := by
  go_enter Tryz.func73, Tryz.ntmps73
  go_wp2
  go_ret
  exact ⟨rfl, rfl⟩
theorem isNaN_str (a : ByteArray) (w : World) : Calls Tryz.prog 74 #[.string a] w fun e w' => e = .returned (.bool false) ∧ w = w' := by
  go_enter Tryz.func74, Tryz.ntmps74
  go_wp2
  go_ret
  exact ⟨rfl, rfl⟩

theorem cmp_int (a b : Int) (w : World) : Calls Tryz.prog 44 #[.int .i64 a, .int .i64 b] w fun e w' => e = .returned (.int .i64 (cmpI a b)) ∧ w = w' := by
  unfold cmpI
  by_cases h : a < b
  · rw [if_pos h]
    go_enter Tryz.func44, Tryz.ntmps44
    go_wp2_with (go_at_call 73; refine (isNaN_int _ _).mono ?_; rintro e w' ⟨rfl, rfl⟩)
    go_ret
    exact ⟨rfl, rfl⟩
  · rw [if_neg h]
    by_cases h2 : b < a
    · rw [if_pos h2]
      go_enter Tryz.func44, Tryz.ntmps44
      go_wp2_with (go_at_call 73; refine (isNaN_int _ _).mono ?_; rintro e w' ⟨rfl, rfl⟩)
      go_ret
      exact ⟨rfl, rfl⟩
    · rw [if_neg h2]
      go_enter Tryz.func44, Tryz.ntmps44
      go_wp2_with (go_at_call 73; refine (isNaN_int _ _).mono ?_; rintro e w' ⟨rfl, rfl⟩)
      go_ret
      exact ⟨rfl, rfl⟩

theorem cmp_str (a b : ByteArray) (w : World) : Calls Tryz.prog 45 #[.string a, .string b] w fun e w' => e = .returned (.int .i64 (cmpS a b)) ∧ w = w' := by
  unfold cmpS
  cases h : Op.bytesLess a.toList b.toList
  · cases h2 : a.toList == b.toList
    · simp only [Bool.false_eq_true, if_false]
      go_enter Tryz.func45, Tryz.ntmps45
      go_wp2_with (go_at_call 74; refine (isNaN_str _ _).mono ?_; rintro e w' ⟨rfl, rfl⟩)
      go_ret
      exact ⟨rfl, rfl⟩
    · simp only [Bool.false_eq_true, if_false, if_true]
      go_enter Tryz.func45, Tryz.ntmps45
      go_wp2_with (go_at_call 74; refine (isNaN_str _ _).mono ?_; rintro e w' ⟨rfl, rfl⟩)
      go_ret
      exact ⟨rfl, rfl⟩
  · simp only [if_true]
    go_enter Tryz.func45, Tryz.ntmps45
    go_wp2_with (go_at_call 74; refine (isNaN_str _ _).mono ?_; rintro e w' ⟨rfl, rfl⟩)
    go_ret
    exact ⟨rfl, rfl⟩

/-- The first of three that is not 0. -/
def or3 (a b c : Int) : Int := if a ≠ 0 then a else if b ≠ 0 then b else c

theorem or3_a {a b c : Int} (h : a ≠ 0) : or3 a b c = a := by unfold or3; rw [if_pos h]
theorem or3_b {a b c : Int} (h : a = 0) (h1 : b ≠ 0) : or3 a b c = b := by unfold or3; rw [if_neg (by rw [h]; simp), if_pos h1]
theorem or3_c {a b c : Int} (h : a = 0) (h1 : b = 0) : or3 a b c = c := by unfold or3; rw [if_neg (by rw [h]; simp), if_neg (by rw [h1]; simp)]

theorem or_any (a b c : Int) (g : Nat) (w : World) (h0 : w.cell? ⟨g, 0, none⟩ = some (.int .i64 a)) (h1 : w.cell? ⟨g, 1, none⟩ = some (.int .i64 b)) (h2 : w.cell? ⟨g, 2, none⟩ = some (.int .i64 c)) :
    Calls Tryz.prog 43 #[.slice (some ⟨g, 0, none⟩) 3 3] w fun e w' => e = .returned (.int .i64 (or3 a b c)) ∧ w = w' := by
  go_enter Tryz.func43, Tryz.ntmps43
  go_wp2
  go_loop [5, 8] (fun v i => ∃ k : Nat, k ≤ 3 ∧ i = .int .i64 k ∧ (0 < k → a = 0) ∧ (1 < k → b = 0) ∧ (2 < k → c = 0)) (fun _ i => 3 - (intOf i).toNat)
  case atStart => exact ⟨0, by omega, rfl, by omega, by omega, by omega⟩
  case round =>
    obtain ⟨k, hk, rfl, ha, hb, hc⟩ := hrel
    have hkk : k = 0 ∨ k = 1 ∨ k = 2 ∨ k = 3 := by omega
    clear hk
    rcases hkk with rfl | rfl | rfl | rfl
    · by_cases h : a = 0
      · have H := Lib.hid h
        have hz : (a != 0) = false := by simpa using h
        clear h ha hb hc
        go_wp2
        go_round
        case rel => exact ⟨1, by omega, rfl, fun _ => H.out, by omega, by omega⟩
        case measure => simp [intOf]
      · have hz : (a != 0) = true := by simpa using h
        have H := Lib.hid (or3_a (b := b) (c := c) h)
        clear h ha hb hc
        go_wp2
        go_ret
        exact ⟨ret_int H.out.symm, rfl⟩
    · have H := Lib.hid (ha (by omega))
      by_cases h : b = 0
      · have H2 := Lib.hid h
        have hz : (b != 0) = false := by simpa using h
        clear h ha hb hc
        go_wp2
        go_round
        case rel => exact ⟨2, by omega, rfl, fun _ => H.out, fun _ => H2.out, by omega⟩
        case measure => simp [intOf]
      · have hz : (b != 0) = true := by simpa using h
        have H2 := Lib.hid (or3_b (c := c) H.out h)
        clear h ha hb hc
        go_wp2
        go_ret
        exact ⟨ret_int H2.out.symm, rfl⟩
    · have H := Lib.hid (ha (by omega))
      have H1 := Lib.hid (hb (by omega))
      by_cases h : c = 0
      · have H2 := Lib.hid h
        have hz : (c != 0) = false := by simpa using h
        clear h ha hb hc
        go_wp2
        go_round
        case rel => exact ⟨3, by omega, rfl, fun _ => H.out, fun _ => H1.out, fun _ => H2.out⟩
        case measure => simp [intOf]
      · have hz : (c != 0) = true := by simpa using h
        have H2 := Lib.hid (or3_c (c := c) H.out H1.out)
        clear h ha hb hc
        go_wp2
        go_ret
        exact ⟨ret_int H2.out.symm, rfl⟩
    · have H := Lib.hid (ha (by omega))
      have H1 := Lib.hid (hb (by omega))
      have H2 := Lib.hid (hc (by omega))
      clear ha hb hc
      go_wp2
      go_ret
      exact ⟨ret_int (by rw [or3_c H.out H1.out, H2.out]), rfl⟩
end Go.Proofs.YtbmhlpojgiminaaGreatDoor.Val
/- Layer 3: Compare and Same, walked. -/
namespace Go.Proofs.YtbmhlpojgiminaaGreatDoor.Val
open Go.RowKit
open Kit (ret_int ret_bool)

/-- What Compare does at a value x ahead. -/
def CmpAt (x : Vl) : Prop := ∀ (y : Vl) (B : Nat) (W : World) (vx vy : Value), B ≤ W.heap.size → Rep B W x vx → Rep B W y vy →
  Calls Tryz.prog 18 #[vx, vy] W fun e w' => e = .returned (.int .i64 (cmpV x y)) ∧ Below W.heap.size W w'

theorem cmpL_at : ∀ (l m : List Vl) (k : Nat), k ≤ l.length → k ≤ m.length → (∀ i x y, i < k → l[i]? = some x → m[i]? = some y → cmpV x y = 0) → cmpL l m = cmpL (l.drop k) (m.drop k)
  | _, _, 0, _, _, _ => rfl
  | x :: r, y :: q, k + 1, hl, hm, h => by
    have h0 := h 0 x y (by omega) rfl rfl
    rw [cmpL, if_neg (by rw [h0]; simp)]
    rw [cmpL_at r q k (by simpa using hl) (by simpa using hm) fun i a b hi ha hb => h (i + 1) a b (by omega) (by simpa using ha) (by simpa using hb)]
    rfl
theorem cmpL_ne {l m : List Vl} {k : Nat} {x y : Vl} (hx : l[k]? = some x) (hy : m[k]? = some y) (h : ∀ i x y, i < k → l[i]? = some x → m[i]? = some y → cmpV x y = 0) (hn : cmpV x y ≠ 0) : cmpL l m = cmpV x y := by
  have kl := (List.getElem?_eq_some_iff.1 hx).1
  have km := (List.getElem?_eq_some_iff.1 hy).1
  rw [cmpL_at l m k (by omega) (by omega) h, List.drop_eq_getElem_cons kl, List.drop_eq_getElem_cons km, cmpL, (List.getElem?_eq_some_iff.1 hx).2, (List.getElem?_eq_some_iff.1 hy).2, if_pos hn]
theorem cmpL_end {l m : List Vl} (h : ∀ i x y, i < min l.length m.length → l[i]? = some x → m[i]? = some y → cmpV x y = 0) : cmpL l m = cmpI l.length m.length := by
  rw [cmpL_at l m (min l.length m.length) (by omega) (by omega) h]
  unfold cmpI
  rcases Nat.lt_trichotomy l.length m.length with h1 | h1 | h1
  · rw [Nat.min_eq_left (by omega), List.drop_length, List.drop_eq_getElem_cons h1, cmpL, if_pos (by omega)]
  · rw [Nat.min_eq_left (by omega), List.drop_length, h1, List.drop_length, cmpL, if_neg (by omega), if_neg (by omega)]
  · rw [Nat.min_eq_right (by omega), List.drop_length, List.drop_eq_getElem_cons h1, cmpL, if_neg (by omega), if_pos (by omega)]


set_option maxRecDepth 100000 in
set_option maxHeartbeats 1000000 in
theorem lists_any (l m : List Vl) (hl : ∀ x ∈ l, CmpAt x) (B : Nat) (w : World) (lv mv : Value) (hB : B ≤ w.heap.size) (h1 : RepL B w l lv) (h2 : RepL B w m mv) :
    Calls Tryz.prog 46 #[lv, mv, .func (.func 18) #[] #[]] w fun e w' => e = .returned (.int .i64 (cmpL l m)) ∧ Below w.heap.size w w' := by
  obtain ⟨a1, c1, rfl, z1⟩ := h1.len
  obtain ⟨a2, c2, rfl, z2⟩ := h2.len
  unfold maxLen at z1 z2
  obtain ⟨N, hN⟩ : ∃ N, N = min l.length m.length := ⟨_, rfl⟩
  have hN1 : N ≤ l.length := by omega
  have hN2 : N ≤ m.length := by omega
  have hmin : min (l.length : Int) (m.length : Int) = (N : Int) := by omega
  have HL := Lib.hid (And.intro hl (And.intro h1 (And.intro h2 hN)))
  clear hl h1 h2 hN
  go_enter Tryz.func46, Tryz.ntmps46
  go_wp2
  clear hmin
  go_loopw [7, 8, 14] (fun i c j wr => ∃ k : Nat, k ≤ N ∧ j = .int .i64 k ∧ Below w.heap.size w wr ∧ ∀ i x y, i < k → l[i]? = some x → m[i]? = some y → cmpV x y = 0) (fun _ _ j _ => N - (intOf j).toNat)
  case atStart => exact ⟨0, by omega, rfl, Below.refl _ _, by omega⟩
  case round =>
    obtain ⟨k, hk, rfl, hBw, hz⟩ := hrel
    have HZ := Lib.hid hz; clear hz
    by_cases hlt : k < N
    · obtain ⟨x, hx⟩ : ∃ x, l[k]? = some x := ⟨_, List.getElem?_eq_getElem (by omega)⟩
      obtain ⟨y, hy⟩ : ∃ y, m[k]? = some y := ⟨_, List.getElem?_eq_getElem (by omega)⟩
      obtain ⟨b1, o1, d1, lw1, e1, hb1, ⟨p0, p1, p2, p3⟩, hl1⟩ := (HL.out.2.1.below hBw hB).at hx
      obtain ⟨b2, o2, d2, lw2, e2, hb2, ⟨q0, q1, q2, q3⟩, hl2⟩ := (HL.out.2.2.1.below hBw hB).at hy
      cases e1; cases e2
      have hsz := hBw.size
      have HX := Lib.hid (HL.out.1 x (List.mem_of_getElem? hx) y B wr.drew (aggV x.k x.n x.s lw1) (aggV y.k y.n y.s lw2) (by show B ≤ wr.heap.size; omega)
        (rep_in hl1).drew (rep_in hl2).drew)
      have i1 : (0 : Int) ≤ (k : Int) := by omega
      have i2 : (k : Int) < (l.length : Int) := by omega
      have i3 : (k : Int) < (m.length : Int) := by omega
      have HXY := Lib.hid (And.intro hx hy)
      clear hl1 hl2 hx hy
      by_cases hc : cmpV x y = 0
      · have HC := Lib.hid hc
        rw [hc] at HX
        clear hc
        go_wp2
        go_still_tail 9, (by kernel_rfl)
        go_wp2_with (go_at_call 18; refine HX.out.mono ?_; rintro e w' ⟨rfl, hB⟩)
        go_roundw
        case rel =>
          refine ⟨k + 1, by omega, by go_num, hBw.drew.trans (hB.mono hsz), fun i a b hi ha hb => ?_⟩
          rcases Nat.lt_or_ge i k with h | h
          · exact HZ.out i a b h ha hb
          · obtain rfl : i = k := by omega
            rw [HXY.out.1] at ha; rw [HXY.out.2] at hb; cases ha; cases hb
            exact HC.out
        case measure => simp [intOf]; omega
      · have hc2 : (cmpV x y != 0) = true := by simpa using hc
        have HC := Lib.hid (cmpL_ne HXY.out.1 HXY.out.2 HZ.out hc)
        clear hc
        go_wp2
        go_still_tail 9, (by kernel_rfl)
        go_wp2_with (go_at_call 18; refine HX.out.mono ?_; rintro e w' ⟨rfl, hB⟩)
        go_ret
        exact ⟨ret_int HC.out.symm, hBw.drew.trans (hB.mono hsz)⟩
    · have hkN : k = N := by omega
      have HE := Lib.hid (cmpL_end (l := l) (m := m) (by rw [← HL.out.2.2.2, ← hkN]; exact HZ.out))
      subst hkN
      go_wp2_with (go_at_call 44; refine (cmp_int _ _ _).mono ?_; rintro e w' ⟨rfl, rfl⟩)
      go_ret
      exact ⟨ret_int HE.out.symm, hBw⟩
end Go.Proofs.YtbmhlpojgiminaaGreatDoor.Val
/- Layer 3: Compare and Same, walked. -/
namespace Go.Proofs.YtbmhlpojgiminaaGreatDoor.Val
open Go.RowKit
open Kit (ret_int ret_bool)

theorem or3_if (a b c d : Int) : (if a ≠ 0 then a else if b ≠ 0 then b else if c ≠ 0 then c else d) = if or3 a b c ≠ 0 then or3 a b c else d := by
  unfold or3
  by_cases h1 : a = 0 <;> by_cases h2 : b = 0 <;> by_cases h3 : c = 0 <;> simp [h1, h2, h3]
theorem cmpV_or (x y : Vl) : cmpV x y = if or3 (cmpI x.k y.k) (cmpI x.n y.n) (cmpS x.s y.s) ≠ 0 then or3 (cmpI x.k y.k) (cmpI x.n y.n) (cmpS x.s y.s) else cmpL x.l y.l := by
  cases x; cases y
  rw [cmpV]; exact or3_if _ _ _ _

theorem or_eq {a b c O : Int} (hO : O = or3 a b c) (g : Nat) (w : World) (h0 : w.cell? ⟨g, 0, none⟩ = some (.int .i64 a)) (h1 : w.cell? ⟨g, 1, none⟩ = some (.int .i64 b)) (h2 : w.cell? ⟨g, 2, none⟩ = some (.int .i64 c)) :
    Calls Tryz.prog 43 #[.slice (some ⟨g, 0, none⟩) 3 3] w fun e w' => e = .returned (.int .i64 O) ∧ w = w' := by
  rw [hO]; exact or_any a b c g w h0 h1 h2

set_option maxRecDepth 100000 in
set_option maxHeartbeats 1000000 in
theorem cmp_step (x y : Vl) (hx : ∀ z ∈ x.l, CmpAt z) (B : Nat) (w : World) (vx vy : Value) (hB : B ≤ w.heap.size) (h1 : Rep B w x vx) (h2 : Rep B w y vy) :
    Calls Tryz.prog 18 #[vx, vy] w fun e w' => e = .returned (.int .i64 (cmpV x y)) ∧ Below w.heap.size w w' := by
  obtain ⟨lx, rfl, hlx⟩ := rep_of h1
  obtain ⟨ly, rfl, hly⟩ := rep_of h2
  have HCV := Lib.hid (cmpV_or x y)
  obtain ⟨O, hO⟩ : ∃ O, O = or3 (cmpI x.k y.k) (cmpI x.n y.n) (cmpS x.s y.s) := ⟨_, rfl⟩
  rw [← hO] at HCV
  obtain ⟨W0, hW0⟩ : ∃ W0, W0 = (w.alloc (.cells #[.int .i64 x.k, .int .i64 x.n, .string x.s, lx] 30)).alloc (.cells #[.int .i64 y.k, .int .i64 y.n, .string y.s, ly] 30) := ⟨_, rfl⟩
  have hBw : Below w.heap.size w W0 := by rw [hW0]; exact Kit.below_alloc2 _ _ _
  obtain ⟨p0, p1, p2, p3⟩ : Kit.Box4 W0 w.heap.size (.int .i64 x.k) (.int .i64 x.n) (.string x.s) lx := by rw [hW0]; exact (Kit.box4_new _ _ _ _ _ _).kept _
  obtain ⟨q0, q1, q2, q3⟩ : Kit.Box4 W0 (w.heap.size + 1) (.int .i64 y.k) (.int .i64 y.n) (.string y.s) ly := by rw [hW0]; have h := Kit.box4_new (w.alloc (.cells #[.int .i64 x.k, .int .i64 x.n, .string x.s, lx] 30)) (.int .i64 y.k) (.int .i64 y.n) (.string y.s) ly 30; rw [World.size_alloc] at h; exact h
  have HL := Lib.hid (fun W (hW : Below w.heap.size w W) => lists_any x.l y.l hx B W lx ly (by have := hW.size; omega) (hlx.below hW hB) (hly.below hW hB))
  have HO := Lib.hid hO
  clear h1 h2 hlx hly hx hO
  go_enter Tryz.func18, Tryz.ntmps18
  go_wp2
  change Code.wp _ _ _ _ ((w.alloc (.cells #[.int .i64 x.k, .int .i64 x.n, .string x.s, lx] 30)).alloc (.cells #[.int .i64 y.k, .int .i64 y.n, .string y.s, ly] 30))
  rw [← hW0]
  clear hW0
  refine wp_region_still_tail 15 (by kernel_rfl) (by kernel_rfl) ?_
  simp only [List.take_succ_cons, List.take_zero, List.drop_succ_cons, List.drop_zero]
  repeat (first | still_step | still_call ((cmp_int _ _ _).mono fun _ _ h => ⟨h.1, h.2.symm⟩) | still_call ((cmp_str _ _ _).mono fun _ _ h => ⟨h.1, h.2.symm⟩))
  refine wpStill_nil ?_
  change wpList _ _ _ _ _ W0.drew
  have hz1 : w.heap.size < W0.heap.size := Kit.lt_of_cell p3
  have hz2 : w.heap.size + 1 < W0.heap.size := Kit.lt_of_cell q3
  clear p0 p1 p2 q0 q1 q2
  by_cases hc : O = 0
  · have hc2 : (O != 0) = false := by simpa using hc
    have HC := Lib.hid hc
    clear hc
    go_wp2_with (go_at_call 43; refine (or_eq HO.out _ _ ?_ ?_ ?_).mono ?_; exact Kit.cell_drew (Kit.cell_new _ _ _ 0 rfl); exact Kit.cell_drew (Kit.cell_new _ _ _ 1 rfl); exact Kit.cell_drew (Kit.cell_new _ _ _ 2 rfl); rintro e w' ⟨rfl, rfl⟩)
    refine (HL.out _ ?_).mono ?_
    · exact (hBw.alloc (by omega) _).drew
    · rintro e w' ⟨rfl, hB2⟩
      go_wp2
      go_ret
      exact ⟨ret_int (by rw [HCV.out, if_neg (by rw [HC.out]; simp)]), ((hBw.alloc (by omega) _).drew).trans (hB2.mono (by simp; omega))⟩
  · have hc2 : (O != 0) = true := by simpa using hc
    have HC := Lib.hid hc
    clear hc
    go_wp2_with (go_at_call 43; refine (or_eq HO.out _ _ ?_ ?_ ?_).mono ?_; exact Kit.cell_drew (Kit.cell_new _ _ _ 0 rfl); exact Kit.cell_drew (Kit.cell_new _ _ _ 1 rfl); exact Kit.cell_drew (Kit.cell_new _ _ _ 2 rfl); rintro e w' ⟨rfl, rfl⟩)
    go_ret
    exact ⟨ret_int (by rw [HCV.out, if_pos HC.out]), (hBw.alloc (by omega) _).drew⟩

/-- Compare, of any values. -/
theorem compare_all : ∀ x : Vl, CmpAt x
  | .mk k n s l => fun y B W vx vy hB h1 h2 => cmp_step (.mk k n s l) y (fun z _hz => compare_all z) B W vx vy hB h1 h2
termination_by x => SizeOf.sizeOf x
decreasing_by
  have := List.sizeOf_lt_of_mem _hz
  simp only [Vl.l, Vl.mk.sizeOf_spec] at this ⊢
  omega
theorem compare_any (x y : Vl) (B : Nat) (W : World) (vx vy : Value) (hB : B ≤ W.heap.size) (h1 : Rep B W x vx) (h2 : Rep B W y vy) :
    Calls Tryz.prog 18 #[vx, vy] W fun e w' => e = .returned (.int .i64 (cmpV x y)) ∧ Below W.heap.size W w' := compare_all x y B W vx vy hB h1 h2
end Go.Proofs.YtbmhlpojgiminaaGreatDoor.Val
/- Layer 3: the document's own Compare and Same, and Same. -/
namespace Go.Proofs.YtbmhlpojgiminaaGreatDoor.Val
open Go.RowKit
open Kit (ret_int ret_bool)

theorem order_any (a b : Int) (w : World) : Calls Tryz.prog 47 #[.int .i64 a, .int .i64 b] w fun e w' => e = .returned (.int .i64 (cmpI a b)) ∧ w = w' := by
  unfold cmpI
  by_cases h : a < b
  · rw [if_pos h]
    go_enter Tryz.func47, Tryz.ntmps47
    go_wp2
    go_ret
    exact ⟨rfl, rfl⟩
  · rw [if_neg h]
    by_cases h2 : b < a
    · rw [if_pos h2]
      go_enter Tryz.func47, Tryz.ntmps47
      go_wp2
      go_ret
      exact ⟨rfl, rfl⟩
    · rw [if_neg h2]
      go_enter Tryz.func47, Tryz.ntmps47
      go_wp2
      go_ret
      exact ⟨rfl, rfl⟩

/-- What the document's own Compare does at a value x ahead. -/
def RefAt (x : Vl) : Prop := ∀ (y : Vl) (B : Nat) (W : World) (vx vy : Value), B ≤ W.heap.size → Rep B W x vx → Rep B W y vy →
  Calls Tryz.prog 19 #[vx, vy] W fun e w' => e = .returned (.int .i64 (cmpV x y)) ∧ Below W.heap.size W w'

theorem cmpV_k {x y : Vl} (h : cmpI x.k y.k ≠ 0) : cmpV x y = cmpI x.k y.k := by rw [cmpV_or, or3_a h, if_pos h]
theorem cmpV_n {x y : Vl} (h : cmpI x.k y.k = 0) (h2 : cmpI x.n y.n ≠ 0) : cmpV x y = cmpI x.n y.n := by rw [cmpV_or, or3_b h h2, if_pos h2]
theorem cmpV_s {x y : Vl} (h : cmpI x.k y.k = 0) (h2 : cmpI x.n y.n = 0) (h3 : cmpS x.s y.s ≠ 0) : cmpV x y = cmpS x.s y.s := by rw [cmpV_or, or3_c h h2, if_pos h3]
theorem cmpV_l {x y : Vl} (h : cmpI x.k y.k = 0) (h2 : cmpI x.n y.n = 0) (h3 : cmpS x.s y.s = 0) : cmpV x y = cmpL x.l y.l := by rw [cmpV_or, or3_c h h2, if_neg (by rw [h3]; simp)]

set_option maxRecDepth 100000 in
set_option maxHeartbeats 1000000 in
theorem ref_k (x y : Vl) (B : Nat) (w : World) (vx vy : Value) (h1 : Rep B w x vx) (h2 : Rep B w y vy) (hk : cmpI x.k y.k ≠ 0) :
    Calls Tryz.prog 19 #[vx, vy] w fun e w' => e = .returned (.int .i64 (cmpV x y)) ∧ Below w.heap.size w w' := by
  obtain ⟨lx, rfl, hlx⟩ := rep_of h1
  obtain ⟨ly, rfl, hly⟩ := rep_of h2
  rw [cmpV_k hk]
  obtain ⟨O, hO⟩ : ∃ O, O = cmpI x.k y.k := ⟨_, rfl⟩
  have hc : (O == 0) = false := by rw [hO]; simpa using hk
  have HK := fun W => order_any x.k y.k W
  rw [← hO] at HK ⊢
  have HKH := Lib.hid HK
  clear HK hk hO h1 h2 hlx hly
  go_enter Tryz.func19, Tryz.ntmps19
  go_wp2_with (go_at_call 47; refine (HKH.out _).mono ?_; rintro e w' ⟨rfl, rfl⟩)
  refine wp_loop_rounds 1 ?_; rw [rounds_succ]
  go_wp2
  go_ret
  exact ⟨rfl, Kit.below_alloc2 _ _ _⟩

set_option maxRecDepth 100000 in
set_option maxHeartbeats 1000000 in
theorem ref_n (x y : Vl) (B : Nat) (w : World) (vx vy : Value) (h1 : Rep B w x vx) (h2 : Rep B w y vy) (hk : cmpI x.k y.k = 0) (hn : cmpI x.n y.n ≠ 0) :
    Calls Tryz.prog 19 #[vx, vy] w fun e w' => e = .returned (.int .i64 (cmpV x y)) ∧ Below w.heap.size w w' := by
  obtain ⟨lx, rfl, hlx⟩ := rep_of h1
  obtain ⟨ly, rfl, hly⟩ := rep_of h2
  rw [cmpV_n hk hn]
  obtain ⟨O, hO⟩ : ∃ O, O = cmpI x.n y.n := ⟨_, rfl⟩
  have hc : (O == 0) = false := by rw [hO]; simpa using hn
  have HK := fun W => order_any x.k y.k W
  have HN := fun W => order_any x.n y.n W
  rw [hk] at HK
  rw [← hO] at HN ⊢
  have HKH := Lib.hid HK
  have HNH := Lib.hid HN
  clear HK hk hn HN hO h1 h2 hlx hly
  go_enter Tryz.func19, Tryz.ntmps19
  go_wp2_with fail
  refine (HKH.out _).mono ?_; rintro e w' ⟨rfl, rfl⟩
  go_wp2_with fail
  refine (HNH.out _).mono ?_; rintro e w' ⟨rfl, rfl⟩
  go_wp2
  refine wp_loop_rounds 1 ?_; rw [rounds_succ]
  go_wp2
  go_ret
  exact ⟨rfl, Kit.below_alloc2 _ _ _⟩

set_option maxRecDepth 100000 in
set_option maxHeartbeats 1000000 in
theorem ref_s (x y : Vl) (B : Nat) (w : World) (vx vy : Value) (h1 : Rep B w x vx) (h2 : Rep B w y vy) (hk : cmpI x.k y.k = 0) (hn : cmpI x.n y.n = 0) (hs : cmpS x.s y.s ≠ 0) :
    Calls Tryz.prog 19 #[vx, vy] w fun e w' => e = .returned (.int .i64 (cmpV x y)) ∧ Below w.heap.size w w' := by
  obtain ⟨lx, rfl, hlx⟩ := rep_of h1
  obtain ⟨ly, rfl, hly⟩ := rep_of h2
  rw [cmpV_s hk hn hs]
  have HK := fun W => order_any x.k y.k W
  have HN := fun W => order_any x.n y.n W
  rw [hk] at HK
  rw [hn] at HN
  have HKH := Lib.hid HK
  have HNH := Lib.hid HN
  clear HK hk hn HN h1 h2 hlx hly
  unfold cmpS at hs ⊢
  cases h3 : Op.bytesLess x.s.toList y.s.toList
  · rw [h3] at hs
    cases h4 : x.s.toList == y.s.toList
    · simp only [Bool.false_eq_true, if_false]
      clear hs
      go_enter Tryz.func19, Tryz.ntmps19
      go_wp2_with fail
      refine (HKH.out _).mono ?_; rintro e w' ⟨rfl, rfl⟩
      go_wp2_with fail
      refine (HNH.out _).mono ?_; rintro e w' ⟨rfl, rfl⟩
      go_wp2
      refine wp_loop_rounds 1 ?_; rw [rounds_succ]
      go_wp2
      go_ret
      exact ⟨rfl, Kit.below_alloc2 _ _ _⟩
    · rw [h4] at hs; simp at hs
  · simp only [if_true]
    clear hs
    go_enter Tryz.func19, Tryz.ntmps19
    go_wp2_with fail
    refine (HKH.out _).mono ?_; rintro e w' ⟨rfl, rfl⟩
    go_wp2_with fail
    refine (HNH.out _).mono ?_; rintro e w' ⟨rfl, rfl⟩
    go_wp2
    refine wp_loop_rounds 1 ?_; rw [rounds_succ]
    go_wp2
    go_ret
    exact ⟨rfl, Kit.below_alloc2 _ _ _⟩

set_option maxRecDepth 100000 in
set_option maxHeartbeats 1000000 in
theorem ref_l (x y : Vl) (hx : ∀ z ∈ x.l, RefAt z) (B : Nat) (w : World) (vx vy : Value) (hB : B ≤ w.heap.size) (h1 : Rep B w x vx) (h2 : Rep B w y vy) (hk : cmpI x.k y.k = 0) (hn : cmpI x.n y.n = 0) (hs : cmpS x.s y.s = 0) :
    Calls Tryz.prog 19 #[vx, vy] w fun e w' => e = .returned (.int .i64 (cmpV x y)) ∧ Below w.heap.size w w' := by
  obtain ⟨lx, rfl, hlx⟩ := rep_of h1
  obtain ⟨ly, rfl, hly⟩ := rep_of h2
  rw [cmpV_l hk hn hs]
  have HK := fun W => order_any x.k y.k W
  have HN := fun W => order_any x.n y.n W
  rw [hk] at HK
  rw [hn] at HN
  have HKH := Lib.hid HK
  have HNH := Lib.hid HN
  clear HK hk hn HN h1 h2
  unfold cmpS at hs
  cases h3 : Op.bytesLess x.s.toList y.s.toList
  case true => rw [h3] at hs; simp at hs
  cases h4 : x.s.toList == y.s.toList
  case false => rw [h3, h4] at hs; simp at hs
  clear hs
  obtain ⟨a1, c1, rfl, z1⟩ := hlx.len
  obtain ⟨a2, c2, rfl, z2⟩ := hly.len
  unfold maxLen at z1 z2
  generalize hl : x.l = l at *
  generalize hm : y.l = m at *
  have HL := Lib.hid (And.intro hx (And.intro hlx hly))
  clear hx hlx hly hl hm
  obtain ⟨W0, hW0⟩ : ∃ W0, W0 = (w.alloc (.cells #[.int .i64 x.k, .int .i64 x.n, .string x.s, .slice a1 l.length c1] 30)).alloc (.cells #[.int .i64 y.k, .int .i64 y.n, .string y.s, .slice a2 m.length c2] 30) := ⟨_, rfl⟩
  have hBw : Below w.heap.size w W0 := by rw [hW0]; exact Kit.below_alloc2 _ _ _
  have P := Lib.hid (show Kit.Box4 W0 w.heap.size (.int .i64 x.k) (.int .i64 x.n) (.string x.s) (.slice a1 l.length c1) from by rw [hW0]; exact (Kit.box4_new _ _ _ _ _ _).kept _)
  have Q := Lib.hid (show Kit.Box4 W0 (w.heap.size + 1) (.int .i64 y.k) (.int .i64 y.n) (.string y.s) (.slice a2 m.length c2) from by rw [hW0]; have h := Kit.box4_new (w.alloc (.cells #[.int .i64 x.k, .int .i64 x.n, .string x.s, .slice a1 l.length c1] 30)) (.int .i64 y.k) (.int .i64 y.n) (.string y.s) (.slice a2 m.length c2) 30; rw [World.size_alloc] at h; exact h)
  go_enter Tryz.func19, Tryz.ntmps19
  go_wp2_with fail
  refine (HKH.out _).mono ?_; rintro e w' ⟨rfl, rfl⟩
  go_wp2_with fail
  refine (HNH.out _).mono ?_; rintro e w' ⟨rfl, rfl⟩
  go_wp2
  change Code.wp _ _ _ _ ((w.alloc (.cells #[.int .i64 x.k, .int .i64 x.n, .string x.s, .slice a1 l.length c1] 30)).alloc (.cells #[.int .i64 y.k, .int .i64 y.n, .string y.s, .slice a2 m.length c2] 30))
  rw [← hW0]
  clear hW0
  have hzz : w.heap.size + 1 < W0.heap.size := Q.out.lt
  go_loopw [5, 6] (fun c j wr => ∃ k : Nat, k ≤ min l.length m.length ∧ j = .int .i64 k ∧ Below W0.heap.size W0 wr ∧ ∃ C : Int, c = .int .i64 C ∧ ((C = 0 ∧ ∀ i x y, i < k → l[i]? = some x → m[i]? = some y → cmpV x y = 0) ∨ (C ≠ 0 ∧ C = cmpL l m))) (fun c j _ => 2 * (min l.length m.length - (intOf j).toNat) + (if intOf c = 0 then 1 else 0))
  case atStart => exact ⟨0, by omega, rfl, Below.refl _ _, 0, rfl, .inl ⟨rfl, by omega⟩⟩
  case round =>
    obtain ⟨k, hk, rfl, hBr, C, rfl, hz⟩ := hrel
    have hsz := hBr.size
    obtain ⟨p0, p1, p2, p3⟩ := P.out.below hBr (by omega)
    obtain ⟨q0, q1, q2, q3⟩ := Q.out.below hBr (by omega)
    have hBW := hBw.trans (hBr.mono hBw.size)
    rcases hz with ⟨rfl, hz⟩ | ⟨hC, hz⟩
    · have HZ := Lib.hid hz; clear hz
      by_cases hkl : k < l.length
      · by_cases hkm : k < m.length
        · obtain ⟨u, hu⟩ : ∃ u, l[k]? = some u := ⟨_, List.getElem?_eq_getElem (by omega)⟩
          obtain ⟨v, hv⟩ : ∃ v, m[k]? = some v := ⟨_, List.getElem?_eq_getElem (by omega)⟩
          obtain ⟨b1, o1, d1, lw1, e1, hb1, ⟨r0, r1, r2, r3⟩, hl1⟩ := (HL.out.2.1.below hBW hB).at hu
          obtain ⟨b2, o2, d2, lw2, e2, hb2, ⟨s0, s1, s2, s3⟩, hl2⟩ := (HL.out.2.2.below hBW hB).at hv
          cases e1; cases e2
          have HX := Lib.hid (HL.out.1 u (List.mem_of_getElem? hu) v B wr.drew (aggV u.k u.n u.s lw1) (aggV v.k v.n v.s lw2) (by show B ≤ wr.heap.size; omega)
            (rep_in hl1).drew (rep_in hl2).drew)
          have i1 : (0 : Int) ≤ (k : Int) := by omega
          have i2 : (k : Int) < (l.length : Int) := by omega
          have i3 : (k : Int) < (m.length : Int) := by omega
          have HXY := Lib.hid (And.intro hu hv)
          clear hl1 hl2 hu hv
          go_wp2
          go_still_tail 10, (by kernel_rfl)
          go_wp2_with (go_at_call 19; refine HX.out.mono ?_; rintro e w' ⟨rfl, hB2⟩)
          go_roundw
          case rel =>
            refine ⟨k + 1, by omega, by go_num, hBr.drew.trans (hB2.mono hsz), _, rfl, ?_⟩
            by_cases hc : cmpV u v = 0
            · left
              refine ⟨hc, fun i a b hi ha hb => ?_⟩
              rcases Nat.lt_or_ge i k with h | h
              · exact HZ.out i a b h ha hb
              · obtain rfl : i = k := by omega
                rw [HXY.out.1] at ha; rw [HXY.out.2] at hb; cases ha; cases hb
                exact hc
            · right
              exact ⟨hc, (cmpL_ne HXY.out.1 HXY.out.2 HZ.out hc).symm⟩
          case measure =>
            have : (if intOf (Value.int .i64 (cmpV u v)) = 0 then 1 else 0) ≤ 1 := by split <;> omega
            simp [intOf] at this ⊢; omega
        · have HE := Lib.hid (cmpL_end (l := l) (m := m) (by rw [show min l.length m.length = k from by omega]; exact HZ.out))
          have i2 : (k : Int) < (l.length : Int) := by omega
          have i3 : ¬ (k : Int) < (m.length : Int) := by omega
          go_wp2_with (go_at_call 47; refine (order_any _ _ _).mono ?_; rintro e w' ⟨rfl, rfl⟩)
          go_ret
          exact ⟨ret_int HE.out.symm, hBW⟩
      · have HE := Lib.hid (cmpL_end (l := l) (m := m) (by rw [show min l.length m.length = k from by omega]; exact HZ.out))
        have i2 : ¬ (k : Int) < (l.length : Int) := by omega
        go_wp2_with (go_at_call 47; refine (order_any _ _ _).mono ?_; rintro e w' ⟨rfl, rfl⟩)
        go_ret
        exact ⟨ret_int HE.out.symm, hBW⟩
    · have HZ := Lib.hid hz
      have hc2 : (C == 0) = false := by simpa using hC
      clear hz hC
      go_wp2
      go_ret
      exact ⟨ret_int HZ.out, hBW⟩

/-- The document's own Compare, of any values. -/
theorem ref_all : ∀ x : Vl, RefAt x
  | .mk k n s l => fun y B W vx vy hB h1 h2 => by
    by_cases hk : cmpI k y.k = 0
    · by_cases hn : cmpI n y.n = 0
      · by_cases hs : cmpS s y.s = 0
        · exact ref_l (.mk k n s l) y (fun z _hz => ref_all z) B W vx vy hB h1 h2 hk hn hs
        · exact ref_s (.mk k n s l) y B W vx vy h1 h2 hk hn hs
      · exact ref_n (.mk k n s l) y B W vx vy h1 h2 hk hn
    · exact ref_k (.mk k n s l) y B W vx vy h1 h2 hk
termination_by x => SizeOf.sizeOf x
decreasing_by
  have := List.sizeOf_lt_of_mem _hz
  simp only [Vl.l, Vl.mk.sizeOf_spec] at this ⊢
  omega

/-- Are all fields the same? -/
def sameV (x y : Vl) : Bool := cmpV x y == 0

set_option maxRecDepth 100000 in
theorem refSame_any (x y : Vl) (B : Nat) (w : World) (vx vy : Value) (hB : B ≤ w.heap.size) (h1 : Rep B w x vx) (h2 : Rep B w y vy) :
    Calls Tryz.prog 21 #[vx, vy] w fun e w' => e = .returned (.bool (sameV x y)) ∧ Below w.heap.size w w' := by
  have HC := Lib.hid (fun W (hW : Below w.heap.size w W) => ref_all x y B W vx vy (by have := hW.size; omega) (h1.below hW hB) (h2.below hW hB))
  obtain ⟨lx, rfl, hlx⟩ := rep_of h1
  obtain ⟨ly, rfl, hly⟩ := rep_of h2
  clear h1 h2 hlx hly
  go_enter Tryz.func21, Tryz.ntmps21
  go_wp2_with fail
  refine (HC.out _ (Kit.below_alloc2 _ _ _)).mono ?_
  rintro e w' ⟨rfl, hB2⟩
  go_wp2
  go_ret
  exact ⟨rfl, (Kit.below_alloc2 _ _ _).trans (hB2.mono (by simp; omega))⟩

set_option maxRecDepth 100000 in
theorem same_any (x y : Vl) (B : Nat) (w : World) (vx vy : Value) (hB : B ≤ w.heap.size) (h1 : Rep B w x vx) (h2 : Rep B w y vy) :
    Calls Tryz.prog 20 #[vx, vy] w fun e w' => e = .returned (.bool (sameV x y)) ∧ Below w.heap.size w w' := by
  have HC := Lib.hid (fun W (hW : Below w.heap.size w W) => compare_any x y B W vx vy (by have := hW.size; omega) (h1.below hW hB) (h2.below hW hB))
  obtain ⟨lx, rfl, hlx⟩ := rep_of h1
  obtain ⟨ly, rfl, hly⟩ := rep_of h2
  clear h1 h2 hlx hly
  go_enter Tryz.func20, Tryz.ntmps20
  go_wp2_with fail
  refine (HC.out _ (Kit.below_alloc2 _ _ _)).mono ?_
  rintro e w' ⟨rfl, hB2⟩
  go_wp2
  go_ret
  exact ⟨rfl, (Kit.below_alloc2 _ _ _).trans (hB2.mono (by simp; omega))⟩
end Go.Proofs.YtbmhlpojgiminaaGreatDoor.Val
/- Layer 3: Compare is one order. -/
namespace Go.Proofs.YtbmhlpojgiminaaGreatDoor.Val
open Go.RowKit

theorem cmpI_range (a b : Int) : cmpI a b = -1 ∨ cmpI a b = 0 ∨ cmpI a b = 1 := by unfold cmpI; split; exact .inl rfl; split; exact .inr (.inr rfl); exact .inr (.inl rfl)
theorem cmpI_neg (a b : Int) : cmpI a b = -cmpI b a := by
  unfold cmpI
  repeat' split
  all_goals omega
theorem cmpI_zero {a b : Int} : cmpI a b = 0 ↔ a = b := by
  unfold cmpI
  repeat' split
  all_goals omega
theorem cmpI_le {a b c : Int} (h1 : cmpI a b ≤ 0) (h2 : cmpI b c ≤ 0) : cmpI a c ≤ 0 := by
  unfold cmpI at *
  repeat' split at h1
  all_goals (repeat' split at h2)
  all_goals (repeat' split)
  all_goals omega

theorem bless_irrefl (a : List UInt8) : Op.bytesLess a a = false := by rw [bytesLess_eq]; simp
theorem cmpS_eq (a b : ByteArray) : cmpS a b = if a.data.toList < b.data.toList then -1 else if a.data.toList = b.data.toList then 0 else 1 := by
  unfold cmpS
  rw [bytesLess_eq, ByteArray.toList_eq, ByteArray.toList_eq]
  simp
theorem lt_irrefl' (a : List UInt8) : ¬ a < a := List.lt_irrefl a
theorem lt_trans' {a b c : List UInt8} (h1 : a < b) (h2 : b < c) : a < c := List.lt_trans h1 h2
theorem lt_asymm' {a b : List UInt8} (h1 : a < b) : ¬ b < a := fun h => lt_irrefl' a (lt_trans' h1 h)
theorem lt_tri (a b : List UInt8) : a < b ∨ a = b ∨ b < a := by
  rcases Decidable.em (a < b) with h | h
  · exact .inl h
  · rcases Decidable.em (b < a) with h2 | h2
    · exact .inr (.inr h2)
    · exact .inr (.inl (List.le_antisymm (by simpa using h2) (by simpa using h)))
theorem cmpS_range (a b : ByteArray) : cmpS a b = -1 ∨ cmpS a b = 0 ∨ cmpS a b = 1 := by
  rw [cmpS_eq]; split; exact .inl rfl; split; exact .inr (.inl rfl); exact .inr (.inr rfl)
theorem cmpS_neg (a b : ByteArray) : cmpS a b = -cmpS b a := by
  rw [cmpS_eq, cmpS_eq]
  rcases lt_tri a.data.toList b.data.toList with h | h | h
  · rw [if_pos h, if_neg (lt_asymm' h), if_neg (fun e => lt_irrefl' _ (e ▸ h))]
  · rw [if_neg (fun e => lt_irrefl' _ (h ▸ e)), if_pos h, if_neg (fun e => lt_irrefl' _ (h ▸ e)), if_pos h.symm]; rfl
  · rw [if_neg (lt_asymm' h), if_neg (fun e => lt_irrefl' _ (e ▸ h)), if_pos h]; rfl
theorem cmpS_zero {a b : ByteArray} : cmpS a b = 0 ↔ a = b := by
  rw [cmpS_eq]
  rcases lt_tri a.data.toList b.data.toList with h | h | h
  · rw [if_pos h]
    constructor
    · intro h; cases h
    · intro e; rw [e] at h; exact absurd h (lt_irrefl' _)
  · rw [if_neg (fun e => lt_irrefl' _ (h ▸ e)), if_pos h]
    exact ⟨fun _ => ByteArray.ext (Array.toList_inj.1 h), fun _ => rfl⟩
  · rw [if_neg (lt_asymm' h), if_neg (fun e => lt_irrefl' _ (e ▸ h))]
    constructor
    · intro h; cases h
    · intro e; rw [e] at h; exact absurd h (lt_irrefl' _)
theorem cmpS_le {a b c : ByteArray} (h1 : cmpS a b ≤ 0) (h2 : cmpS b c ≤ 0) : cmpS a c ≤ 0 := by
  rw [cmpS_eq] at *
  have k : ∀ x y : List UInt8, (if x < y then (-1 : Int) else if x = y then 0 else 1) ≤ 0 → x < y ∨ x = y := fun x y h => by
    by_cases p : x < y
    · exact .inl p
    · by_cases q : x = y
      · exact .inr q
      · rw [if_neg p, if_neg q] at h; omega
  rcases k _ _ h1 with h | h <;> rcases k _ _ h2 with g | g
  · rw [if_pos (lt_trans' h g)]; decide
  · rw [← g, if_pos h]; decide
  · rw [h, if_pos g]; decide
  · rw [h, g, if_neg (lt_irrefl' _), if_pos rfl]; decide

/-- An order of three values. -/
def sgn (x : Int) : Prop := x = -1 ∨ x = 0 ∨ x = 1

mutual
theorem cmpV_range : ∀ x y : Vl, sgn (cmpV x y)
  | .mk k n s l, .mk k' n' s' l' => by
    have h1 := cmpI_range k k'
    have h2 := cmpI_range n n'
    have h3 := cmpS_range s s'
    have h4 := cmpL_range l l'
    rw [cmpV]
    unfold sgn at *
    split
    · exact h1
    · split
      · exact h2
      · split
        · exact h3
        · exact h4
theorem cmpL_range : ∀ l m : List Vl, sgn (cmpL l m)
  | [], [] => by rw [cmpL]; exact .inr (.inl rfl)
  | [], _ :: _ => by rw [cmpL]; exact .inl rfl
  | _ :: _, [] => by rw [cmpL]; exact .inr (.inr rfl)
  | x :: r, y :: q => by
    have h1 := cmpV_range x y
    have h2 := cmpL_range r q
    rw [cmpL]
    split
    · exact h1
    · exact h2
end
mutual
theorem cmpV_neg : ∀ x y : Vl, cmpV x y = -cmpV y x
  | .mk k n s l, .mk k' n' s' l' => by
    have h1 := cmpI_neg k k'
    have h2 := cmpI_neg n n'
    have h3 := cmpS_neg s s'
    have h4 := cmpL_neg l l'
    by_cases a : cmpI k k' = 0
    · by_cases b : cmpI n n' = 0
      · by_cases c : cmpS s s' = 0
        · rw [cmpV_l (x := .mk k n s l) (y := .mk k' n' s' l') a b c, cmpV_l (x := .mk k' n' s' l') (y := .mk k n s l) (show cmpI k' k = 0 by omega) (show cmpI n' n = 0 by omega) (show cmpS s' s = 0 by omega)]
          exact h4
        · rw [cmpV_s (x := .mk k n s l) (y := .mk k' n' s' l') a b c, cmpV_s (x := .mk k' n' s' l') (y := .mk k n s l) (show cmpI k' k = 0 by omega) (show cmpI n' n = 0 by omega) (show cmpS s' s ≠ 0 by omega)]
          exact h3
      · rw [cmpV_n (x := .mk k n s l) (y := .mk k' n' s' l') a b, cmpV_n (x := .mk k' n' s' l') (y := .mk k n s l) (show cmpI k' k = 0 by omega) (show cmpI n' n ≠ 0 by omega)]
        exact h2
    · rw [cmpV_k (x := .mk k n s l) (y := .mk k' n' s' l') a, cmpV_k (x := .mk k' n' s' l') (y := .mk k n s l) (show cmpI k' k ≠ 0 by omega)]
      exact h1
theorem cmpL_neg : ∀ l m : List Vl, cmpL l m = -cmpL m l
  | [], [] => by rw [cmpL]; decide
  | [], _ :: _ => by rw [cmpL, cmpL]
  | _ :: _, [] => by rw [cmpL, cmpL]; decide
  | x :: r, y :: q => by
    have h1 := cmpV_neg x y
    have h2 := cmpL_neg r q
    rw [cmpL, cmpL]
    by_cases a : cmpV y x = 0
    · rw [if_neg (by omega), if_neg (by omega)]; exact h2
    · rw [if_pos (by omega), if_pos (by omega)]; exact h1
end
mutual
theorem cmpV_zero : ∀ x y : Vl, cmpV x y = 0 → x = y
  | .mk k n s l, .mk k' n' s' l', h => by
    rw [cmpV] at h
    by_cases a : cmpI k k' = 0
    · rw [if_neg (by omega)] at h
      by_cases b : cmpI n n' = 0
      · rw [if_neg (by omega)] at h
        by_cases c : cmpS s s' = 0
        · rw [if_neg (by omega)] at h
          rw [cmpI_zero.1 a, cmpI_zero.1 b, cmpS_zero.1 c, cmpL_zero l l' h]
        · rw [if_pos (by omega)] at h; exact absurd h c
      · rw [if_pos (by omega)] at h; exact absurd h b
    · rw [if_pos (by omega)] at h; exact absurd h a
theorem cmpL_zero : ∀ l m : List Vl, cmpL l m = 0 → l = m
  | [], [], _ => rfl
  | [], _ :: _, h => by rw [cmpL] at h; omega
  | _ :: _, [], h => by rw [cmpL] at h; omega
  | x :: r, y :: q, h => by
    rw [cmpL] at h
    by_cases a : cmpV x y = 0
    · rw [if_neg (by omega)] at h
      rw [cmpV_zero x y a, cmpL_zero r q h]
    · rw [if_pos (by omega)] at h; exact absurd h a
end
theorem cmpV_self (x : Vl) : cmpV x x = 0 := by have := cmpV_neg x x; omega
theorem sameV_iff {x y : Vl} : sameV x y = true ↔ x = y := by
  unfold sameV
  rw [beq_iff_eq]
  exact ⟨cmpV_zero x y, fun h => by rw [h]; exact cmpV_self y⟩
mutual
theorem cmpV_le : ∀ x y z : Vl, cmpV x y ≤ 0 → cmpV y z ≤ 0 → cmpV x z ≤ 0
  | .mk k n s l, .mk k' n' s' l', .mk k'' n'' s'' l'', h1, h2 => by
    have r1 := cmpI_range k k'; have r2 := cmpI_range k' k''; have r3 := cmpI_range k k''
    have n1 := cmpI_range n n'; have n2 := cmpI_range n' n''; have n3 := cmpI_range n n''
    have s1 := cmpS_range s s'; have s2 := cmpS_range s' s''; have s3 := cmpS_range s s''
    have tk := @cmpI_le k k' k''
    have tn := @cmpI_le n n' n''
    have ts := @cmpS_le s s' s''
    have tl := cmpL_le l l' l''
    have zk : cmpI k k'' = 0 → cmpI k k' ≤ 0 → cmpI k' k'' ≤ 0 → cmpI k k' = 0 ∧ cmpI k' k'' = 0 := fun a b c => by
      have e := cmpI_zero.1 a; subst e
      have := cmpI_neg k k'; omega
    have zn : cmpI n n'' = 0 → cmpI n n' ≤ 0 → cmpI n' n'' ≤ 0 → cmpI n n' = 0 ∧ cmpI n' n'' = 0 := fun a b c => by
      have e := cmpI_zero.1 a; subst e
      have := cmpI_neg n n'; omega
    have zs : cmpS s s'' = 0 → cmpS s s' ≤ 0 → cmpS s' s'' ≤ 0 → cmpS s s' = 0 ∧ cmpS s' s'' = 0 := fun a b c => by
      have e := cmpS_zero.1 a; subst e
      have := cmpS_neg s s'; omega
    rw [cmpV] at h1 h2 ⊢
    have kk : cmpI k k' ≤ 0 := by
      by_cases a : cmpI k k' = 0
      · omega
      · rw [if_pos (by omega)] at h1; exact h1
    have kk2 : cmpI k' k'' ≤ 0 := by
      by_cases a : cmpI k' k'' = 0
      · omega
      · rw [if_pos (by omega)] at h2; exact h2
    by_cases a : cmpI k k'' = 0
    · have ⟨a1, a2⟩ := zk a kk kk2
      rw [if_neg (by omega)] at h1 h2 ⊢
      have nn : cmpI n n' ≤ 0 := by
        by_cases b : cmpI n n' = 0
        · omega
        · rw [if_pos (by omega)] at h1; exact h1
      have nn2 : cmpI n' n'' ≤ 0 := by
        by_cases b : cmpI n' n'' = 0
        · omega
        · rw [if_pos (by omega)] at h2; exact h2
      by_cases b : cmpI n n'' = 0
      · have ⟨b1, b2⟩ := zn b nn nn2
        rw [if_neg (by omega)] at h1 h2 ⊢
        have ss : cmpS s s' ≤ 0 := by
          by_cases c : cmpS s s' = 0
          · omega
          · rw [if_pos (by omega)] at h1; exact h1
        have ss2 : cmpS s' s'' ≤ 0 := by
          by_cases c : cmpS s' s'' = 0
          · omega
          · rw [if_pos (by omega)] at h2; exact h2
        by_cases c : cmpS s s'' = 0
        · have ⟨c1, c2⟩ := zs c ss ss2
          rw [if_neg (by omega)] at h1 h2 ⊢
          exact tl h1 h2
        · rw [if_pos (by omega)]; exact ts ss ss2
      · rw [if_pos (by omega)]; exact tn nn nn2
    · rw [if_pos (by omega)]; exact tk kk kk2
theorem cmpL_le : ∀ l m p : List Vl, cmpL l m ≤ 0 → cmpL m p ≤ 0 → cmpL l p ≤ 0
  | [], _, [], _, _ => by rw [cmpL]; decide
  | [], _, _ :: _, _, _ => by rw [cmpL]; decide
  | _ :: _, [], _, h, _ => by rw [cmpL] at h; omega
  | _ :: _, _ :: _, [], _, h => by rw [cmpL] at h; omega
  | x :: r, y :: q, z :: t, h1, h2 => by
    have a1 := cmpV_range x y; have a2 := cmpV_range y z; have a3 := cmpV_range x z
    have tv := cmpV_le x y z
    have tl := cmpL_le r q t
    have zv : cmpV x z = 0 → cmpV x y ≤ 0 → cmpV y z ≤ 0 → cmpV x y = 0 ∧ cmpV y z = 0 := fun a b c => by
      have e := cmpV_zero x z a; subst e
      have := cmpV_neg x y; omega
    rw [cmpL] at h1 h2 ⊢
    have vv : cmpV x y ≤ 0 := by
      by_cases b : cmpV x y = 0
      · omega
      · rw [if_pos (by omega)] at h1; exact h1
    have vv2 : cmpV y z ≤ 0 := by
      by_cases b : cmpV y z = 0
      · omega
      · rw [if_pos (by omega)] at h2; exact h2
    by_cases b : cmpV x z = 0
    · have ⟨b1, b2⟩ := zv b vv vv2
      rw [if_neg (by omega)] at h1 h2 ⊢
      exact tl h1 h2
    · rw [if_pos (by omega)]; exact tv vv vv2
end
end Go.Proofs.YtbmhlpojgiminaaGreatDoor.Val
