/- Layer 3: Compare and Same, walked. -/
import Derived.Test.YtlcmphoamoiemaaGreatDoorValCmp
namespace Go.Proofs.YtlcmphoamoiemaaGreatDoor.Val
open Go.RowKit
open Kit (ret_int ret_bool)

/-- What Compare does at a value x ahead. -/
def CmpAt (x : Vl) : Prop := ∀ (y : Vl) (B : Nat) (W : World) (vx vy : Value), B ≤ W.heap.size → Rep B W x vx → Rep B W y vy →
  Calls Tryz.prog 22 #[vx, vy] W fun e w' => e = .returned (.int .i64 (cmpV x y)) ∧ Below W.heap.size W w'

theorem cmpL_at : ∀ (l m : List Vl) (k : Nat), k ≤ l.length → k ≤ m.length → (∀ i x y, i < k → l[i]? = some x → m[i]? = some y → cmpV x y = 0) → cmpL l m = cmpL (l.drop k) (m.drop k)
  | _, _, 0, _, _, _ => rfl
  | x :: r, y :: q, k + 1, hl, hm, h => by
    have h0 := h 0 x y (by omega) rfl rfl
    rw [cmpL, if_neg (by rw [h0]; simp)]
    rw [cmpL_at r q k (by simpa using hl) (by simpa using hm) fun i a b hi ha hb => h (i + 1) a b (by omega) (by simpa using ha) (by simpa using hb)]
    rfl
theorem cmpL_ne {l m : List Vl} {k : Nat} {x y : Vl} (hx : l[k]? = some x) (hy : m[k]? = some y) (h : ∀ i x y, i < k → l[i]? = some x → m[i]? = some y → cmpV x y = 0) (hn : cmpV x y ≠ 0) : cmpL l m = cmpV x y := by
  have kl := (List.getElem?_eq_some_iff.1 hx).1
  have km := (List.getElem?_eq_some_iff.1 hy).1
  rw [cmpL_at l m k (by omega) (by omega) h, List.drop_eq_getElem_cons kl, List.drop_eq_getElem_cons km, cmpL, (List.getElem?_eq_some_iff.1 hx).2, (List.getElem?_eq_some_iff.1 hy).2, if_pos hn]
theorem cmpL_end {l m : List Vl} (h : ∀ i x y, i < min l.length m.length → l[i]? = some x → m[i]? = some y → cmpV x y = 0) : cmpL l m = cmpI l.length m.length := by
  rw [cmpL_at l m (min l.length m.length) (by omega) (by omega) h]
  unfold cmpI
  rcases Nat.lt_trichotomy l.length m.length with h1 | h1 | h1
  · rw [Nat.min_eq_left (by omega), List.drop_length, List.drop_eq_getElem_cons h1, cmpL, if_pos (by omega)]
  · rw [Nat.min_eq_left (by omega), List.drop_length, h1, List.drop_length, cmpL, if_neg (by omega), if_neg (by omega)]
  · rw [Nat.min_eq_right (by omega), List.drop_length, List.drop_eq_getElem_cons h1, cmpL, if_neg (by omega), if_pos (by omega)]

theorem vInfo : (Tryz.prog.info? 30).map (·.size) = some 4 := by kernel_rfl

set_option maxRecDepth 100000 in
set_option maxHeartbeats 1000000 in
theorem lists_any (l m : List Vl) (hl : ∀ x ∈ l, CmpAt x) (B : Nat) (w : World) (lv mv : Value) (hB : B ≤ w.heap.size) (h1 : RepL B w l lv) (h2 : RepL B w m mv) :
    Calls Tryz.prog 55 #[lv, mv, .func (.func 22) #[] #[]] w fun e w' => e = .returned (.int .i64 (cmpL l m)) ∧ Below w.heap.size w w' := by
  obtain ⟨a1, c1, rfl, z1⟩ := h1.len
  obtain ⟨a2, c2, rfl, z2⟩ := h2.len
  unfold maxLen at z1 z2
  obtain ⟨N, hN⟩ : ∃ N, N = min l.length m.length := ⟨_, rfl⟩
  have hN1 : N ≤ l.length := by omega
  have hN2 : N ≤ m.length := by omega
  have hmin : min (l.length : Int) (m.length : Int) = (N : Int) := by omega
  have HL := Lib.hid (And.intro hl (And.intro h1 (And.intro h2 hN)))
  clear hl h1 h2 hN
  go_enter Tryz.func55, Tryz.ntmps55
  go_wp2
  clear hmin
  go_loopw [7, 8, 14] (fun i c j wr => ∃ k : Nat, k ≤ N ∧ j = .int .i64 k ∧ Below w.heap.size w wr ∧ ∀ i x y, i < k → l[i]? = some x → m[i]? = some y → cmpV x y = 0) (fun _ _ j _ => N - (intOf j).toNat)
  case atStart => exact ⟨0, by omega, rfl, Below.refl _ _, by omega⟩
  case round =>
    obtain ⟨k, hk, rfl, hBw, hz⟩ := hrel
    have HZ := Lib.hid hz; clear hz
    by_cases hlt : k < N
    · obtain ⟨x, hx⟩ : ∃ x, l[k]? = some x := ⟨_, List.getElem?_eq_getElem (by omega)⟩
      obtain ⟨y, hy⟩ : ∃ y, m[k]? = some y := ⟨_, List.getElem?_eq_getElem (by omega)⟩
      obtain ⟨b1, o1, d1, lw1, e1, hb1, ⟨p0, p1, p2, p3⟩, hl1⟩ := (HL.out.2.1.below hBw hB).at hx
      obtain ⟨b2, o2, d2, lw2, e2, hb2, ⟨q0, q1, q2, q3⟩, hl2⟩ := (HL.out.2.2.1.below hBw hB).at hy
      cases e1; cases e2
      have hsz := hBw.size
      have HX := Lib.hid (HL.out.1 x (List.mem_of_getElem? hx) y B wr.drew (aggV x.k x.n x.s lw1) (aggV y.k y.n y.s lw2) (by show B ≤ wr.heap.size; omega)
        (rep_in hl1).drew (rep_in hl2).drew)
      have i1 : (0 : Int) ≤ (k : Int) := by omega
      have i2 : (k : Int) < (l.length : Int) := by omega
      have i3 : (k : Int) < (m.length : Int) := by omega
      have HXY := Lib.hid (And.intro hx hy)
      clear hl1 hl2 hx hy
      by_cases hc : cmpV x y = 0
      · have HC := Lib.hid hc
        rw [hc] at HX
        clear hc
        go_wp2
        go_still_tail 9, (by kernel_rfl)
        go_wp2_with (go_at_call 22; refine HX.out.mono ?_; rintro e w' ⟨rfl, hB⟩)
        go_roundw
        case rel =>
          refine ⟨k + 1, by omega, by go_num, hBw.drew.trans (hB.mono hsz), fun i a b hi ha hb => ?_⟩
          rcases Nat.lt_or_ge i k with h | h
          · exact HZ.out i a b h ha hb
          · obtain rfl : i = k := by omega
            rw [HXY.out.1] at ha; rw [HXY.out.2] at hb; cases ha; cases hb
            exact HC.out
        case measure => simp [intOf]; omega
      · have hc2 : (cmpV x y != 0) = true := by simpa using hc
        have HC := Lib.hid (cmpL_ne HXY.out.1 HXY.out.2 HZ.out hc)
        clear hc
        go_wp2
        go_still_tail 9, (by kernel_rfl)
        go_wp2_with (go_at_call 22; refine HX.out.mono ?_; rintro e w' ⟨rfl, hB⟩)
        go_ret
        exact ⟨ret_int HC.out.symm, hBw.drew.trans (hB.mono hsz)⟩
    · have hkN : k = N := by omega
      have HE := Lib.hid (cmpL_end (l := l) (m := m) (by rw [← HL.out.2.2.2, ← hkN]; exact HZ.out))
      subst hkN
      go_wp2_with (go_at_call 53; refine (cmp_int _ _ _).mono ?_; rintro e w' ⟨rfl, rfl⟩)
      go_ret
      exact ⟨ret_int HE.out.symm, hBw⟩
end Go.Proofs.YtlcmphoamoiemaaGreatDoor.Val
