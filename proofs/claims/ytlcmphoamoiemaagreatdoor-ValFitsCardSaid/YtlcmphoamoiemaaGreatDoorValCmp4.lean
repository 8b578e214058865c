/- Layer 3: the document's own Compare and Same, and Same. -/
import Derived.Test.YtlcmphoamoiemaaGreatDoorValCmp3
namespace Go.Proofs.YtlcmphoamoiemaaGreatDoor.Val
open Go.RowKit
open Kit (ret_int ret_bool)

theorem order_any (a b : Int) (w : World) : Calls Tryz.prog 56 #[.int .i64 a, .int .i64 b] w fun e w' => e = .returned (.int .i64 (cmpI a b)) ∧ w = w' := by
  unfold cmpI
  by_cases h : a < b
  · rw [if_pos h]
    go_enter Tryz.func56, Tryz.ntmps56
    go_wp2
    go_ret
    exact ⟨rfl, rfl⟩
  · rw [if_neg h]
    by_cases h2 : b < a
    · rw [if_pos h2]
      go_enter Tryz.func56, Tryz.ntmps56
      go_wp2
      go_ret
      exact ⟨rfl, rfl⟩
    · rw [if_neg h2]
      go_enter Tryz.func56, Tryz.ntmps56
      go_wp2
      go_ret
      exact ⟨rfl, rfl⟩

/-- What the document's own Compare does at a value x ahead. -/
def RefAt (x : Vl) : Prop := ∀ (y : Vl) (B : Nat) (W : World) (vx vy : Value), B ≤ W.heap.size → Rep B W x vx → Rep B W y vy →
  Calls Tryz.prog 23 #[vx, vy] W fun e w' => e = .returned (.int .i64 (cmpV x y)) ∧ Below W.heap.size W w'

theorem cmpV_k {x y : Vl} (h : cmpI x.k y.k ≠ 0) : cmpV x y = cmpI x.k y.k := by rw [cmpV_or, or3_a h, if_pos h]
theorem cmpV_n {x y : Vl} (h : cmpI x.k y.k = 0) (h2 : cmpI x.n y.n ≠ 0) : cmpV x y = cmpI x.n y.n := by rw [cmpV_or, or3_b h h2, if_pos h2]
theorem cmpV_s {x y : Vl} (h : cmpI x.k y.k = 0) (h2 : cmpI x.n y.n = 0) (h3 : cmpS x.s y.s ≠ 0) : cmpV x y = cmpS x.s y.s := by rw [cmpV_or, or3_c h h2, if_pos h3]
theorem cmpV_l {x y : Vl} (h : cmpI x.k y.k = 0) (h2 : cmpI x.n y.n = 0) (h3 : cmpS x.s y.s = 0) : cmpV x y = cmpL x.l y.l := by rw [cmpV_or, or3_c h h2, if_neg (by rw [h3]; simp)]

set_option maxRecDepth 100000 in
set_option maxHeartbeats 1000000 in
theorem ref_k (x y : Vl) (B : Nat) (w : World) (vx vy : Value) (h1 : Rep B w x vx) (h2 : Rep B w y vy) (hk : cmpI x.k y.k ≠ 0) :
    Calls Tryz.prog 23 #[vx, vy] w fun e w' => e = .returned (.int .i64 (cmpV x y)) ∧ Below w.heap.size w w' := by
  obtain ⟨lx, rfl, hlx⟩ := rep_of h1
  obtain ⟨ly, rfl, hly⟩ := rep_of h2
  rw [cmpV_k hk]
  obtain ⟨O, hO⟩ : ∃ O, O = cmpI x.k y.k := ⟨_, rfl⟩
  have hc : (O == 0) = false := by rw [hO]; simpa using hk
  have HK := fun W => order_any x.k y.k W
  rw [← hO] at HK ⊢
  have HKH := Lib.hid HK
  clear HK hk hO h1 h2 hlx hly
  go_enter Tryz.func23, Tryz.ntmps23
  go_wp2_with (go_at_call 56; refine (HKH.out _).mono ?_; rintro e w' ⟨rfl, rfl⟩)
  refine wp_loop_rounds 1 ?_; rw [rounds_succ]
  go_wp2
  go_ret
  exact ⟨rfl, Kit.below_alloc2 _ _ _⟩

set_option maxRecDepth 100000 in
set_option maxHeartbeats 1000000 in
theorem ref_n (x y : Vl) (B : Nat) (w : World) (vx vy : Value) (h1 : Rep B w x vx) (h2 : Rep B w y vy) (hk : cmpI x.k y.k = 0) (hn : cmpI x.n y.n ≠ 0) :
    Calls Tryz.prog 23 #[vx, vy] w fun e w' => e = .returned (.int .i64 (cmpV x y)) ∧ Below w.heap.size w w' := by
  obtain ⟨lx, rfl, hlx⟩ := rep_of h1
  obtain ⟨ly, rfl, hly⟩ := rep_of h2
  rw [cmpV_n hk hn]
  obtain ⟨O, hO⟩ : ∃ O, O = cmpI x.n y.n := ⟨_, rfl⟩
  have hc : (O == 0) = false := by rw [hO]; simpa using hn
  have HK := fun W => order_any x.k y.k W
  have HN := fun W => order_any x.n y.n W
  rw [hk] at HK
  rw [← hO] at HN ⊢
  have HKH := Lib.hid HK
  have HNH := Lib.hid HN
  clear HK hk hn HN hO h1 h2 hlx hly
  go_enter Tryz.func23, Tryz.ntmps23
  go_wp2_with fail
  refine (HKH.out _).mono ?_; rintro e w' ⟨rfl, rfl⟩
  go_wp2_with fail
  refine (HNH.out _).mono ?_; rintro e w' ⟨rfl, rfl⟩
  go_wp2
  refine wp_loop_rounds 1 ?_; rw [rounds_succ]
  go_wp2
  go_ret
  exact ⟨rfl, Kit.below_alloc2 _ _ _⟩

set_option maxRecDepth 100000 in
set_option maxHeartbeats 1000000 in
theorem ref_s (x y : Vl) (B : Nat) (w : World) (vx vy : Value) (h1 : Rep B w x vx) (h2 : Rep B w y vy) (hk : cmpI x.k y.k = 0) (hn : cmpI x.n y.n = 0) (hs : cmpS x.s y.s ≠ 0) :
    Calls Tryz.prog 23 #[vx, vy] w fun e w' => e = .returned (.int .i64 (cmpV x y)) ∧ Below w.heap.size w w' := by
  obtain ⟨lx, rfl, hlx⟩ := rep_of h1
  obtain ⟨ly, rfl, hly⟩ := rep_of h2
  rw [cmpV_s hk hn hs]
  have HK := fun W => order_any x.k y.k W
  have HN := fun W => order_any x.n y.n W
  rw [hk] at HK
  rw [hn] at HN
  have HKH := Lib.hid HK
  have HNH := Lib.hid HN
  clear HK hk hn HN h1 h2 hlx hly
  unfold cmpS at hs ⊢
  cases h3 : Op.bytesLess x.s.toList y.s.toList
  · rw [h3] at hs
    cases h4 : x.s.toList == y.s.toList
    · simp only [Bool.false_eq_true, if_false]
      clear hs
      go_enter Tryz.func23, Tryz.ntmps23
      go_wp2_with fail
      refine (HKH.out _).mono ?_; rintro e w' ⟨rfl, rfl⟩
      go_wp2_with fail
      refine (HNH.out _).mono ?_; rintro e w' ⟨rfl, rfl⟩
      go_wp2
      refine wp_loop_rounds 1 ?_; rw [rounds_succ]
      go_wp2
      go_ret
      exact ⟨rfl, Kit.below_alloc2 _ _ _⟩
    · rw [h4] at hs; simp at hs
  · simp only [if_true]
    clear hs
    go_enter Tryz.func23, Tryz.ntmps23
    go_wp2_with fail
    refine (HKH.out _).mono ?_; rintro e w' ⟨rfl, rfl⟩
    go_wp2_with fail
    refine (HNH.out _).mono ?_; rintro e w' ⟨rfl, rfl⟩
    go_wp2
    refine wp_loop_rounds 1 ?_; rw [rounds_succ]
    go_wp2
    go_ret
    exact ⟨rfl, Kit.below_alloc2 _ _ _⟩

set_option maxRecDepth 100000 in
set_option maxHeartbeats 1000000 in
theorem ref_l (x y : Vl) (hx : ∀ z ∈ x.l, RefAt z) (B : Nat) (w : World) (vx vy : Value) (hB : B ≤ w.heap.size) (h1 : Rep B w x vx) (h2 : Rep B w y vy) (hk : cmpI x.k y.k = 0) (hn : cmpI x.n y.n = 0) (hs : cmpS x.s y.s = 0) :
    Calls Tryz.prog 23 #[vx, vy] w fun e w' => e = .returned (.int .i64 (cmpV x y)) ∧ Below w.heap.size w w' := by
  obtain ⟨lx, rfl, hlx⟩ := rep_of h1
  obtain ⟨ly, rfl, hly⟩ := rep_of h2
  rw [cmpV_l hk hn hs]
  have HK := fun W => order_any x.k y.k W
  have HN := fun W => order_any x.n y.n W
  rw [hk] at HK
  rw [hn] at HN
  have HKH := Lib.hid HK
  have HNH := Lib.hid HN
  clear HK hk hn HN h1 h2
  unfold cmpS at hs
  cases h3 : Op.bytesLess x.s.toList y.s.toList
  case true => rw [h3] at hs; simp at hs
  cases h4 : x.s.toList == y.s.toList
  case false => rw [h3, h4] at hs; simp at hs
  clear hs
  obtain ⟨a1, c1, rfl, z1⟩ := hlx.len
  obtain ⟨a2, c2, rfl, z2⟩ := hly.len
  unfold maxLen at z1 z2
  generalize hl : x.l = l at *
  generalize hm : y.l = m at *
  have HL := Lib.hid (And.intro hx (And.intro hlx hly))
  clear hx hlx hly hl hm
  obtain ⟨W0, hW0⟩ : ∃ W0, W0 = (w.alloc (.cells #[.int .i64 x.k, .int .i64 x.n, .string x.s, .slice a1 l.length c1] 30)).alloc (.cells #[.int .i64 y.k, .int .i64 y.n, .string y.s, .slice a2 m.length c2] 30) := ⟨_, rfl⟩
  have hBw : Below w.heap.size w W0 := by rw [hW0]; exact Kit.below_alloc2 _ _ _
  have P := Lib.hid (show Kit.Box4 W0 w.heap.size (.int .i64 x.k) (.int .i64 x.n) (.string x.s) (.slice a1 l.length c1) from by rw [hW0]; exact (Kit.box4_new _ _ _ _ _ _).kept _)
  have Q := Lib.hid (show Kit.Box4 W0 (w.heap.size + 1) (.int .i64 y.k) (.int .i64 y.n) (.string y.s) (.slice a2 m.length c2) from by rw [hW0]; have h := Kit.box4_new (w.alloc (.cells #[.int .i64 x.k, .int .i64 x.n, .string x.s, .slice a1 l.length c1] 30)) (.int .i64 y.k) (.int .i64 y.n) (.string y.s) (.slice a2 m.length c2) 30; rw [World.size_alloc] at h; exact h)
  go_enter Tryz.func23, Tryz.ntmps23
  go_wp2_with fail
  refine (HKH.out _).mono ?_; rintro e w' ⟨rfl, rfl⟩
  go_wp2_with fail
  refine (HNH.out _).mono ?_; rintro e w' ⟨rfl, rfl⟩
  go_wp2
  change Code.wp _ _ _ _ ((w.alloc (.cells #[.int .i64 x.k, .int .i64 x.n, .string x.s, .slice a1 l.length c1] 30)).alloc (.cells #[.int .i64 y.k, .int .i64 y.n, .string y.s, .slice a2 m.length c2] 30))
  rw [← hW0]
  clear hW0
  have hzz : w.heap.size + 1 < W0.heap.size := Q.out.lt
  go_loopw [5, 6] (fun c j wr => ∃ k : Nat, k ≤ min l.length m.length ∧ j = .int .i64 k ∧ Below W0.heap.size W0 wr ∧ ∃ C : Int, c = .int .i64 C ∧ ((C = 0 ∧ ∀ i x y, i < k → l[i]? = some x → m[i]? = some y → cmpV x y = 0) ∨ (C ≠ 0 ∧ C = cmpL l m))) (fun c j _ => 2 * (min l.length m.length - (intOf j).toNat) + (if intOf c = 0 then 1 else 0))
  case atStart => exact ⟨0, by omega, rfl, Below.refl _ _, 0, rfl, .inl ⟨rfl, by omega⟩⟩
  case round =>
    obtain ⟨k, hk, rfl, hBr, C, rfl, hz⟩ := hrel
    have hsz := hBr.size
    obtain ⟨p0, p1, p2, p3⟩ := P.out.below hBr (by omega)
    obtain ⟨q0, q1, q2, q3⟩ := Q.out.below hBr (by omega)
    have hBW := hBw.trans (hBr.mono hBw.size)
    rcases hz with ⟨rfl, hz⟩ | ⟨hC, hz⟩
    · have HZ := Lib.hid hz; clear hz
      by_cases hkl : k < l.length
      · by_cases hkm : k < m.length
        · obtain ⟨u, hu⟩ : ∃ u, l[k]? = some u := ⟨_, List.getElem?_eq_getElem (by omega)⟩
          obtain ⟨v, hv⟩ : ∃ v, m[k]? = some v := ⟨_, List.getElem?_eq_getElem (by omega)⟩
          obtain ⟨b1, o1, d1, lw1, e1, hb1, ⟨r0, r1, r2, r3⟩, hl1⟩ := (HL.out.2.1.below hBW hB).at hu
          obtain ⟨b2, o2, d2, lw2, e2, hb2, ⟨s0, s1, s2, s3⟩, hl2⟩ := (HL.out.2.2.below hBW hB).at hv
          cases e1; cases e2
          have HX := Lib.hid (HL.out.1 u (List.mem_of_getElem? hu) v B wr.drew (aggV u.k u.n u.s lw1) (aggV v.k v.n v.s lw2) (by show B ≤ wr.heap.size; omega)
            (rep_in hl1).drew (rep_in hl2).drew)
          have i1 : (0 : Int) ≤ (k : Int) := by omega
          have i2 : (k : Int) < (l.length : Int) := by omega
          have i3 : (k : Int) < (m.length : Int) := by omega
          have HXY := Lib.hid (And.intro hu hv)
          clear hl1 hl2 hu hv
          go_wp2
          go_still_tail 10, (by kernel_rfl)
          go_wp2_with (go_at_call 23; refine HX.out.mono ?_; rintro e w' ⟨rfl, hB2⟩)
          go_roundw
          case rel =>
            refine ⟨k + 1, by omega, by go_num, hBr.drew.trans (hB2.mono hsz), _, rfl, ?_⟩
            by_cases hc : cmpV u v = 0
            · left
              refine ⟨hc, fun i a b hi ha hb => ?_⟩
              rcases Nat.lt_or_ge i k with h | h
              · exact HZ.out i a b h ha hb
              · obtain rfl : i = k := by omega
                rw [HXY.out.1] at ha; rw [HXY.out.2] at hb; cases ha; cases hb
                exact hc
            · right
              exact ⟨hc, (cmpL_ne HXY.out.1 HXY.out.2 HZ.out hc).symm⟩
          case measure =>
            have : (if intOf (Value.int .i64 (cmpV u v)) = 0 then 1 else 0) ≤ 1 := by split <;> omega
            simp [intOf] at this ⊢; omega
        · have HE := Lib.hid (cmpL_end (l := l) (m := m) (by rw [show min l.length m.length = k from by omega]; exact HZ.out))
          have i2 : (k : Int) < (l.length : Int) := by omega
          have i3 : ¬ (k : Int) < (m.length : Int) := by omega
          go_wp2_with (go_at_call 56; refine (order_any _ _ _).mono ?_; rintro e w' ⟨rfl, rfl⟩)
          go_ret
          exact ⟨ret_int HE.out.symm, hBW⟩
      · have HE := Lib.hid (cmpL_end (l := l) (m := m) (by rw [show min l.length m.length = k from by omega]; exact HZ.out))
        have i2 : ¬ (k : Int) < (l.length : Int) := by omega
        go_wp2_with (go_at_call 56; refine (order_any _ _ _).mono ?_; rintro e w' ⟨rfl, rfl⟩)
        go_ret
        exact ⟨ret_int HE.out.symm, hBW⟩
    · have HZ := Lib.hid hz
      have hc2 : (C == 0) = false := by simpa using hC
      clear hz hC
      go_wp2
      go_ret
      exact ⟨ret_int HZ.out, hBW⟩

/-- The document's own Compare, of any values. -/
theorem ref_all : ∀ x : Vl, RefAt x
  | .mk k n s l => fun y B W vx vy hB h1 h2 => by
    by_cases hk : cmpI k y.k = 0
    · by_cases hn : cmpI n y.n = 0
      · by_cases hs : cmpS s y.s = 0
        · exact ref_l (.mk k n s l) y (fun z _hz => ref_all z) B W vx vy hB h1 h2 hk hn hs
        · exact ref_s (.mk k n s l) y B W vx vy h1 h2 hk hn hs
      · exact ref_n (.mk k n s l) y B W vx vy h1 h2 hk hn
    · exact ref_k (.mk k n s l) y B W vx vy h1 h2 hk
termination_by x => SizeOf.sizeOf x
decreasing_by
  have := List.sizeOf_lt_of_mem _hz
  simp only [Vl.l, Vl.mk.sizeOf_spec] at this ⊢
  omega

/-- Are all fields the same? -/
def sameV (x y : Vl) : Bool := cmpV x y == 0

set_option maxRecDepth 100000 in
theorem refSame_any (x y : Vl) (B : Nat) (w : World) (vx vy : Value) (hB : B ≤ w.heap.size) (h1 : Rep B w x vx) (h2 : Rep B w y vy) :
    Calls Tryz.prog 25 #[vx, vy] w fun e w' => e = .returned (.bool (sameV x y)) ∧ Below w.heap.size w w' := by
  have HC := Lib.hid (fun W (hW : Below w.heap.size w W) => ref_all x y B W vx vy (by have := hW.size; omega) (h1.below hW hB) (h2.below hW hB))
  obtain ⟨lx, rfl, hlx⟩ := rep_of h1
  obtain ⟨ly, rfl, hly⟩ := rep_of h2
  clear h1 h2 hlx hly
  go_enter Tryz.func25, Tryz.ntmps25
  go_wp2_with fail
  refine (HC.out _ (Kit.below_alloc2 _ _ _)).mono ?_
  rintro e w' ⟨rfl, hB2⟩
  go_wp2
  go_ret
  exact ⟨rfl, (Kit.below_alloc2 _ _ _).trans (hB2.mono (by simp; omega))⟩

set_option maxRecDepth 100000 in
theorem same_any (x y : Vl) (B : Nat) (w : World) (vx vy : Value) (hB : B ≤ w.heap.size) (h1 : Rep B w x vx) (h2 : Rep B w y vy) :
    Calls Tryz.prog 24 #[vx, vy] w fun e w' => e = .returned (.bool (sameV x y)) ∧ Below w.heap.size w w' := by
  have HC := Lib.hid (fun W (hW : Below w.heap.size w W) => compare_any x y B W vx vy (by have := hW.size; omega) (h1.below hW hB) (h2.below hW hB))
  obtain ⟨lx, rfl, hlx⟩ := rep_of h1
  obtain ⟨ly, rfl, hly⟩ := rep_of h2
  clear h1 h2 hlx hly
  go_enter Tryz.func24, Tryz.ntmps24
  go_wp2_with fail
  refine (HC.out _ (Kit.below_alloc2 _ _ _)).mono ?_
  rintro e w' ⟨rfl, hB2⟩
  go_wp2
  go_ret
  exact ⟨rfl, (Kit.below_alloc2 _ _ _).trans (hB2.mono (by simp; omega))⟩
end Go.Proofs.YtlcmphoamoiemaaGreatDoor.Val
