/- Layer 3's laws: ValOrder. -/
import Derived.Test.YtlcmphoamoiemaaDoorLaw3Odd
import Derived.Deep.RegionHeld
namespace Go.Proofs.YtlcmphoamoiemaaDoor.Val
open Go.RowKit
open Kit (ret_int ret_bool Moved)

attribute [local go_sem] Oper.semAt_some

theorem valOf_len (x : Raw) : (valOf x).l.length ≤ 12 := by
  unfold valOf
  split
  · split
    · show ([] : List Vl).length ≤ 12; simp
    · rw [show (valOne _ _ _).l = [] from valOne_flat _ _ _]; simp
  · show ((x.l.take 12).map oneOf).length ≤ 12; simp; omega
/-- What lies in memory while the third value is made. -/
structure OrdJ (w : World) (x z : Raw) (xlv zlv : Value) (V Y : Vl) (bv bw : Nat) (vlv wlv : Value) (W : World) : Prop where
  box : Kit.Box4 W (w.heap.size + 1 + 1) (.int .i64 z.k) (.int .i64 z.n) (.string z.s) zlv
  xbox : Kit.Box4 W w.heap.size (.int .i64 x.k) (.int .i64 x.n) (.string x.s) xlv
  v : Bx W bv V vlv
  y : Bx W bw Y wlv
  below : Below w.heap.size w W
theorem OrdJ.later {w : World} {x z : Raw} {xlv zlv : Value} {V Y : Vl} {bv bw : Nat} {vlv wlv : Value} {W W' : World} (h : OrdJ w x z xlv zlv V Y bv bw vlv wlv W) (hB : Below W.heap.size W W') : OrdJ w x z xlv zlv V Y bv bw vlv wlv W' :=
  ⟨h.box.below hB h.box.lt, h.xbox.below hB h.xbox.lt, h.v.later hB, h.y.later hB, next h.below hB⟩

theorem box_put4 {W : World} {b : Nat} {u0 u1 u2 u3 : Value} (h : BoxF W b u0 u1 u2 u3) (v0 v1 v2 v3 : Value) : Kit.Box4 ((((W.setCell ⟨b, 0, none⟩ v0).setCell ⟨b, 1, none⟩ v1).setCell ⟨b, 2, none⟩ v2).setCell ⟨b, 3, none⟩ v3) b v0 v1 v2 v3 := by
  obtain ⟨h0, h1, h2, h3⟩ := h.c
  refine ⟨?_, ?_, ?_, ?_⟩ <;> simp [go_sem, h0, h1, h2, h3]

theorem ordHeld {w : World} {x z : Raw} {xlv zlv : Value} {V Y O : Vl} {bv bw b16 : Nat} {vlv wlv olv : Value} {W : World} (h : OrdJ w x z xlv zlv V Y bv bw vlv wlv W) (h2 : Bx W b16 O olv) :
    W.cell? ⟨bv, 0, none⟩ = some (.int .i64 V.k) ∧ W.cell? ⟨bv, 1, none⟩ = some (.int .i64 V.n) ∧ W.cell? ⟨bv, 2, none⟩ = some (.string V.s) ∧ W.cell? ⟨bv, 3, none⟩ = some (vlv) ∧ W.cell? ⟨bw, 0, none⟩ = some (.int .i64 Y.k) ∧ W.cell? ⟨bw, 1, none⟩ = some (.int .i64 Y.n) ∧ W.cell? ⟨bw, 2, none⟩ = some (.string Y.s) ∧ W.cell? ⟨bw, 3, none⟩ = some (wlv) ∧ W.cell? ⟨b16, 0, none⟩ = some (.int .i64 O.k) ∧ W.cell? ⟨b16, 1, none⟩ = some (.int .i64 O.n) ∧ W.cell? ⟨b16, 2, none⟩ = some (.string O.s) ∧ W.cell? ⟨b16, 3, none⟩ = some (olv) ∧ W.cell? ⟨w.heap.size, 0, none⟩ = some (.int .i64 x.k) ∧ W.cell? ⟨w.heap.size, 1, none⟩ = some (.int .i64 x.n) ∧ W.cell? ⟨w.heap.size, 2, none⟩ = some (.string x.s) ∧ W.cell? ⟨w.heap.size, 3, none⟩ = some (xlv) := by
  obtain ⟨p1, p2, p3, p4⟩ := h.v.1
  obtain ⟨q1, q2, q3, q4⟩ := h.y.1
  obtain ⟨r1, r2, r3, r4⟩ := h2.1
  obtain ⟨u1, u2, u3, u4⟩ := h.xbox
  exact ⟨p1, p2, p3, p4, q1, q2, q3, q4, r1, r2, r3, r4, u1, u2, u3, u4⟩
/-- What is known of the order of three values. -/
theorem order_facts (x y z : Vl) : (IntKind.i64.wrap (-(cmpV y x)) = cmpV x y ∧ IntKind.i64.wrap (-(cmpV z y)) = cmpV y z ∧ IntKind.i64.wrap (-(cmpV z x)) = cmpV x z ∧ ¬ cmpV x y < -1 ∧ ¬ 1 < cmpV x y) ∧ (cmpV x y ≤ 0 → cmpV y z ≤ 0 → cmpV x z ≤ 0) ∧ (0 ≤ cmpV x y → 0 ≤ cmpV y z → 0 ≤ cmpV x z) := by
  have r1 := cmpV_range x y; have r2 := cmpV_range y z; have r3 := cmpV_range x z
  have n1 := cmpV_neg x y; have n2 := cmpV_neg y z; have n3 := cmpV_neg x z
  have t1 := cmpV_le x y z
  have t2 := cmpV_le z y x
  unfold sgn at r1 r2 r3
  simp only [IntKind.wrap_i64]
  refine ⟨⟨?_, ?_, ?_, ?_, ?_⟩, t1, ?_⟩ <;> omega

set_option maxRecDepth 100000 in
set_option maxHeartbeats 8000000 in
theorem orderlaw_any (ae : Addr) (x y z : Raw) (hx : x.Ok) (hy : y.Ok) (hz : z.Ok) (c n : Int) (c1 : -9223372036854775808 ≤ c) (c2 : c ≤ 9223372036854775807) (n1 : -9223372036854775808 ≤ n) (n2 : n ≤ 9223372036854775807) (s : ByteArray) (w : World) (xlv ylv zlv : Value) (hl : RawL w x.l xlv) (hm : RawL w y.l ylv) (ho : RawL w z.l zlv) (hE : Env ae w) :
    Calls Tryd.prog 3 #[.agg #[.int .i64 x.k, .int .i64 x.n, .string x.s, xlv], .agg #[.int .i64 y.k, .int .i64 y.n, .string y.s, ylv], .agg #[.int .i64 z.k, .int .i64 z.n, .string z.s, zlv], .int .i64 c, .int .i64 n, .string s] w fun e w' => e = .returned (.bool true) ∧ Below w.heap.size w w' := by
  have hOx := fun W (h : Below w.heap.size w W) => ValOf_any x hx W xlv (hl.below h)
  have hOy := fun W (h : Below w.heap.size w W) => ValOf_any y hy W ylv (hm.below h)
  have hOz := fun W (h : Below w.heap.size w W) => ValOf_any z hz W zlv (ho.below h)
  unfold OfPost at hOx hOy hOz
  have hfz := And.intro (valOf_flat z) (show (valOf z).l.length ≤ 1000 by have := valOf_len z; omega)
  generalize valOf x = V at *
  generalize valOf y = Y at *
  generalize valOf z = U at *
  have HE := Lib.hid (fun W (h : Below w.heap.size w W) => hE.below h)
  have HOx := Lib.hid hOx
  have HOy := Lib.hid hOy
  have HOz := Lib.hid hOz
  have HU := Lib.hid hfz
  clear hfz
  obtain ⟨O, hO⟩ : ∃ O, O = oddV U (pickN c 6) n (s.extract 0 (min (s.size : Int) 70).toNat) := ⟨_, rfl⟩
  have hodd := odd_any U HU.out.1 HU.out.2 c n (s.extract 0 (min (s.size : Int) 70).toNat) c1 c2 n1 n2
  rw [← hO] at hodd
  have HOd := Lib.hid hodd
  clear hodd hO
  obtain ⟨xa, xc, rfl, -⟩ := hl.len
  obtain ⟨ya, yc, rfl, -⟩ := hm.len
  obtain ⟨za, zc, rfl, -⟩ := ho.len
  have B0 := Lib.hid (up (up (up (Below.refl w.heap.size w) (.cells #[.int .i64 x.k, .int .i64 x.n, .string x.s, .slice xa x.l.length xc] 24)) (.cells #[.int .i64 y.k, .int .i64 y.n, .string y.s, .slice ya y.l.length yc] 24)) (.cells #[.int .i64 z.k, .int .i64 z.n, .string z.s, .slice za z.l.length zc] 24))
  have A0 := Lib.hid (((Kit.box4_new w (.int .i64 x.k) (.int .i64 x.n) (.string x.s) (.slice xa x.l.length xc) 24).kept (.cells #[.int .i64 y.k, .int .i64 y.n, .string y.s, .slice ya y.l.length yc] 24)).kept (.cells #[.int .i64 z.k, .int .i64 z.n, .string z.s, .slice za z.l.length zc] 24))
  have C0 := Lib.hid ((Kit.box4_new (w.alloc (.cells #[.int .i64 x.k, .int .i64 x.n, .string x.s, .slice xa x.l.length xc] 24)) (.int .i64 y.k) (.int .i64 y.n) (.string y.s) (.slice ya y.l.length yc) 24).kept (.cells #[.int .i64 z.k, .int .i64 z.n, .string z.s, .slice za z.l.length zc] 24))
  have D0 := Lib.hid (Kit.box4_new ((w.alloc (.cells #[.int .i64 x.k, .int .i64 x.n, .string x.s, .slice xa x.l.length xc] 24)).alloc (.cells #[.int .i64 y.k, .int .i64 y.n, .string y.s, .slice ya y.l.length yc] 24)) (.int .i64 z.k) (.int .i64 z.n) (.string z.s) (.slice za z.l.length zc) 24)
  simp only [World.size_alloc] at C0 D0
  clear hE hOx hOy hOz hl hm ho hx hy hz
  go_enter Tryd.func3, Tryd.ntmps3
  go_wp2_with fail
  refine (awake3_any ae _ (HE.out _ B0.out)).mono ?_
  rintro e W1 ⟨rfl, hB⟩
  have B1 := Lib.hid (next B0.out hB)
  have A1 := Lib.hid (A0.out.below hB A0.out.lt)
  have C1 := Lib.hid (C0.out.below hB C0.out.lt)
  have D1 := Lib.hid (D0.out.below hB D0.out.lt)
  obtain ⟨p1, p2, p3, p4⟩ := A1.out
  clear hB B0 A0 C0 D0
  go_wp2_with fail
  refine (HOx.out _ B1.out).mono ?_
  rintro e W2 ⟨⟨lv, rfl, hlv, -⟩, hB⟩
  have B2 := Lib.hid (next B1.out hB)
  obtain ⟨va, vc, rfl, -⟩ := hlv.len
  have P2 := Lib.hid (Bx.new W2 V _ hlv)
  have A2 := Lib.hid ((A1.out.below hB A1.out.lt).kept (.cells #[.int .i64 V.k, .int .i64 V.n, .string V.s, .slice va V.l.length vc] 28))
  have C2 := Lib.hid ((C1.out.below hB C1.out.lt).kept (.cells #[.int .i64 V.k, .int .i64 V.n, .string V.s, .slice va V.l.length vc] 28))
  have D2 := Lib.hid ((D1.out.below hB D1.out.lt).kept (.cells #[.int .i64 V.k, .int .i64 V.n, .string V.s, .slice va V.l.length vc] 28))
  clear hB hlv B1 A1 C1 D1 p1 p2 p3 p4
  obtain ⟨p1, p2, p3, p4⟩ := C2.out
  go_wp2_with fail
  refine (HOy.out _ (up B2.out _)).mono ?_
  rintro e W3 ⟨⟨lv, rfl, hlv, -⟩, hB⟩
  obtain ⟨wa, wq, hwe, -⟩ := hlv.len
  subst hwe
  have B3 := Lib.hid (up (next (up B2.out _) hB) (.cells #[.int .i64 Y.k, .int .i64 Y.n, .string Y.s, .slice wa Y.l.length wq] 28))
  have P3 := Lib.hid ((P2.out.later hB).later (Kit.below_alloc _ (.cells #[.int .i64 Y.k, .int .i64 Y.n, .string Y.s, .slice wa Y.l.length wq] 28)))
  have Q3 := Lib.hid (Bx.new W3 Y _ hlv)
  have A3 := Lib.hid ((A2.out.below hB A2.out.lt).kept (.cells #[.int .i64 Y.k, .int .i64 Y.n, .string Y.s, .slice wa Y.l.length wq] 28))
  have D3 := Lib.hid ((D2.out.below hB D2.out.lt).kept (.cells #[.int .i64 Y.k, .int .i64 Y.n, .string Y.s, .slice wa Y.l.length wq] 28))
  clear hB hlv B2 A2 C2 D2 P2 p1 p2 p3 p4
  obtain ⟨p1, p2, p3, p4⟩ := D3.out
  go_upto_region 4 with fail
  have J4 : Hid (OrdJ w x z (.slice xa x.l.length xc) (.slice za z.l.length zc) V Y W2.heap.size W3.heap.size (.slice va V.l.length vc) (.slice wa Y.l.length wq) _) := Lib.hid ⟨D3.out, A3.out, P3.out, Q3.out, B3.out⟩
  clear A3 D3 P3 Q3 B3
  generalize (W3.alloc (.cells #[.int .i64 Y.k, .int .i64 Y.n, .string Y.s, .slice wa Y.l.length wq] 28)) = W4 at *
  go_cut [16] from 25 (fun v wx => ∃ b16 olv, v = .pointer (some ⟨b16, 0, none⟩) ∧ OrdJ w x z (.slice xa x.l.length xc) (.slice za z.l.length zc) V Y W2.heap.size W3.heap.size (.slice va V.l.length vc) (.slice wa Y.l.length wq) wx ∧ Bx wx b16 O olv)
  case first =>
    refine wp_region_held_drew (S := fun W => W.cell? ⟨w.heap.size + 1 + 1, 0, none⟩ = some (.int .i64 z.k) ∧ W.cell? ⟨w.heap.size + 1 + 1, 1, none⟩ = some (.int .i64 z.n) ∧ W.cell? ⟨w.heap.size + 1 + 1, 2, none⟩ = some (.string z.s) ∧ W.cell? ⟨w.heap.size + 1 + 1, 3, none⟩ = some (.slice za z.l.length zc)) (by kernel_rfl) ⟨p1, p2, p3, p4⟩ (fun hHeld => ?_)
    refine wpAnyH_take (i := 0) (v := .agg #[.int .i64 z.k, .int .i64 z.n, .string z.s, .slice za z.l.length zc]) Kit.at0 (by kernel_rfl) (by kernel_rfl) (by kernel_rfl) (fun _ _ _ h => h) (Or.inl ⟨by rfl, fun w hw => ?_⟩) hHeld ?_
    case' refine_1 => obtain ⟨s0, s1, s2, s3⟩ := hw; go_simp
    try simp only [Act.put, List.setIfInBounds_toArray, List.set_cons_zero, List.set_cons_succ]
    refine wpAnyH_take (i := 2) (v := .int .i64 c) Kit.at2 (by kernel_rfl) (by kernel_rfl) (by kernel_rfl) (fun _ _ _ h => h) (Or.inl ⟨by rfl, fun w hw => ?_⟩) hHeld ?_
    case' refine_1 => obtain ⟨s0, s1, s2, s3⟩ := hw; go_simp
    try simp only [Act.put, List.setIfInBounds_toArray, List.set_cons_zero, List.set_cons_succ]
    refine wpAnyH_take (i := 3) (v := .int .i64 n) Kit.at3 (by kernel_rfl) (by kernel_rfl) (by kernel_rfl) (fun _ _ _ h => h) (Or.inl ⟨by rfl, fun w hw => ?_⟩) hHeld ?_
    case' refine_1 => obtain ⟨s0, s1, s2, s3⟩ := hw; go_simp
    try simp only [Act.put, List.setIfInBounds_toArray, List.set_cons_zero, List.set_cons_succ]
    refine wpAnyH_take (i := 4) (v := .string s) Kit.at4 (by kernel_rfl) (by kernel_rfl) (by kernel_rfl) (fun _ _ _ h => h) (Or.inl ⟨by rfl, fun w hw => ?_⟩) hHeld ?_
    case' refine_1 => obtain ⟨s0, s1, s2, s3⟩ := hw; go_simp
    try simp only [Act.put, List.setIfInBounds_toArray, List.set_cons_zero, List.set_cons_succ]
    refine wpAnyH_take (i := 5) (v := .string s) Kit.at5 (by kernel_rfl) (by kernel_rfl) (by kernel_rfl) (fun _ _ _ h => h) (Or.inl ⟨by rfl, fun w hw => ?_⟩) hHeld ?_
    case' refine_1 => obtain ⟨s0, s1, s2, s3⟩ := hw; go_simp
    try simp only [Act.put, List.setIfInBounds_toArray, List.set_cons_zero, List.set_cons_succ]
    refine wpAnyH_take (i := 6) (v := .int .i64 (s.size : Int)) Kit.at6 (by kernel_rfl) (by kernel_rfl) (by kernel_rfl) (fun _ _ _ h => h) (Or.inl ⟨by rfl, fun w hw => ?_⟩) hHeld ?_
    case' refine_1 => obtain ⟨s0, s1, s2, s3⟩ := hw; go_simp
    try simp only [Act.put, List.setIfInBounds_toArray, List.set_cons_zero, List.set_cons_succ]
    refine wpAnyH_take (i := 7) (v := .int .i64 (min (s.size : Int) 70)) Kit.at7 (by kernel_rfl) (by kernel_rfl) (by kernel_rfl) (fun _ _ _ h => h) (Or.inl ⟨by rfl, fun w hw => ?_⟩) hHeld ?_
    case' refine_1 => obtain ⟨s0, s1, s2, s3⟩ := hw; go_simp
    try simp only [Act.put, List.setIfInBounds_toArray, List.set_cons_zero, List.set_cons_succ]
    refine wpAnyH_take (i := 8) (v := .string (s.extract 0 (min (s.size : Int) 70).toNat)) Kit.at8 (by kernel_rfl) (by kernel_rfl) (by kernel_rfl) (fun _ _ _ h => h) (Or.inl ⟨by rfl, fun w hw => ?_⟩) hHeld ?_
    case' refine_1 => obtain ⟨s0, s1, s2, s3⟩ := hw; go_simp; intro h; exact absurd (h (by omega)) (by omega)
    try simp only [Act.put, List.setIfInBounds_toArray, List.set_cons_zero, List.set_cons_succ]
    have JW6 := Lib.hid (J4.out.later ((Below.refl W4.heap.size W4).drew))
    clear J4
    generalize W4.drew = W6 at *
    have QW6 := Lib.hid (Below.refl W6.heap.size W6)
    -- TREE
    refine wpAnyH_ready (rs := [1, 10]) (by kernel_rfl) (by simp) ?_
    refine AllReadyH.cons (Kit.at1) (fun K hK => ?t1) (AllReadyH.cons Kit.at10 (fun K hK => ?t10) AllReadyH.nil)
    case' t1 =>
      go_simp
      refine (HOz.out _ JW6.out.below).mono ?_; rintro e Wc ⟨⟨lv, rfl, hlv, hfr⟩, hBc⟩
      obtain ⟨ua, uc, hue, -⟩ := hlv.len; subst hue
      have JWc := Lib.hid (JW6.out.later hBc)
      have LWc := Lib.hid hlv
      have QWc := Lib.hid (QW6.out.trans (hBc.mono QW6.out.size))
      refine hK.out _ _ JWc.out.box (fun hHeld => ?_)
      clear hK K hBc hlv hfr
      try simp only [Act.put, List.setIfInBounds_toArray, List.set_cons_zero, List.set_cons_succ]
      refine wpAnyH_ready (rs := [9, 10]) (by kernel_rfl) (by simp) ?_
      refine AllReadyH.cons (Kit.at9) (fun K hK => ?t19) (AllReadyH.cons Kit.at10 (fun K hK => ?t110) AllReadyH.nil)
      case' t19 =>
        go_simp
        refine (HOd.out _ _ _ (Nat.le_refl _) LWc.out).mono ?_; rintro e Wd ⟨⟨lv, rfl, hlv, hkp⟩, hBc⟩
        have hlv2 := hlv
        obtain ⟨oa, oc, hue, -⟩ := hlv2.len; subst hue
        have JWd := Lib.hid (JWc.out.later hBc)
        have LWd := Lib.hid hlv
        have QWd := Lib.hid (QWc.out.trans (hBc.mono QWc.out.size))
        refine hK.out _ _ JWd.out.box (fun hHeld => ?_)
        clear hK K hBc hlv hlv2 hkp JWc LWc QWc
        try simp only [Act.put, List.setIfInBounds_toArray, List.set_cons_zero, List.set_cons_succ]
        refine wpAnyH_ready (rs := [10]) (by kernel_rfl) (by simp) ?_
        refine AllReadyH.cons Kit.at10 (fun K hK => ?_) AllReadyH.nil
        have JWda := Lib.hid (JWd.out.later (Kit.below_alloc Wd (.cells #[.int .i64 0, .int .i64 0, .string ⟨#[]⟩, .slice none 0 0] 28)))
        have QWda := Lib.hid (QWd.out.trans ((Kit.below_alloc Wd (.cells #[.int .i64 0, .int .i64 0, .string ⟨#[]⟩, .slice none 0 0] 28)).mono QWd.out.size))
        have X6 := Lib.hid QWd.out.size
        have GWda := Lib.hid (boxF_new Wd (.int .i64 0) (.int .i64 0) (.string ⟨#[]⟩) (.slice none 0 0) 28)
        have LWda := Lib.hid ((LWd.out.below (Kit.below_alloc Wd (.cells #[.int .i64 0, .int .i64 0, .string ⟨#[]⟩, .slice none 0 0] 28)) (Nat.le_refl _)).mono (Kit.below_alloc Wd (.cells #[.int .i64 0, .int .i64 0, .string ⟨#[]⟩, .slice none 0 0] 28)).size)
        have KX : Hid (∀ E, Moved (fun j => j = Wd.heap.size) (Wd.alloc (.cells #[.int .i64 0, .int .i64 0, .string ⟨#[]⟩, .slice none 0 0] 28)) E → RepL E.heap.size E O.l (.slice oa O.l.length oc)) := Lib.hid (fun E hm => LWd.out.moved (Nat.le_trans (Kit.below_alloc Wd (.cells #[.int .i64 0, .int .i64 0, .string ⟨#[]⟩, .slice none 0 0] 28)).size hm.size) (fun b hb => (hm.block b (Nat.lt_of_lt_of_le hb (Kit.below_alloc Wd (.cells #[.int .i64 0, .int .i64 0, .string ⟨#[]⟩, .slice none 0 0] 28)).size) (by omega)).trans ((Kit.below_alloc Wd (.cells #[.int .i64 0, .int .i64 0, .string ⟨#[]⟩, .slice none 0 0] 28)).block b hb)))
        go_simp
        refine hK.out _ _ JWda.out.box (fun hHeld => ?_)
        clear hK K JWd QWd LWd
        try simp only [Act.put, List.setIfInBounds_toArray, List.set_cons_zero, List.set_cons_succ]
        generalize Wd.heap.size = b16 at GWda X6 KX ⊢
        generalize Wd.alloc (.cells #[.int .i64 0, .int .i64 0, .string ⟨#[]⟩, .slice none 0 0] 28) = Wda at *
        obtain ⟨G5, Q5, K5⟩ : Hid (BoxF Wda b16 (.int .i64 0) (.int .i64 0) (.string ⟨#[]⟩) (.slice none 0 0)) ∧ Hid (Below W6.heap.size W6 Wda) ∧ Hid (∀ E, Moved (fun j => j = b16) Wda E → RepL E.heap.size E O.l (.slice oa O.l.length oc)) := ⟨GWda, QWda, KX⟩
        clear JWda GWda LWda QWda KX
        generalize Wda = W5 at *
      case' t110 =>
        have JWca := Lib.hid (JWc.out.later (Kit.below_alloc Wc (.cells #[.int .i64 0, .int .i64 0, .string ⟨#[]⟩, .slice none 0 0] 28)))
        have QWca := Lib.hid (QWc.out.trans ((Kit.below_alloc Wc (.cells #[.int .i64 0, .int .i64 0, .string ⟨#[]⟩, .slice none 0 0] 28)).mono QWc.out.size))
        have X6 := Lib.hid QWc.out.size
        have GWca := Lib.hid (boxF_new Wc (.int .i64 0) (.int .i64 0) (.string ⟨#[]⟩) (.slice none 0 0) 28)
        have LWca := Lib.hid ((LWc.out.below (Kit.below_alloc Wc (.cells #[.int .i64 0, .int .i64 0, .string ⟨#[]⟩, .slice none 0 0] 28)) (Nat.le_refl _)).mono (Kit.below_alloc Wc (.cells #[.int .i64 0, .int .i64 0, .string ⟨#[]⟩, .slice none 0 0] 28)).size)
        have NU : Hid (∀ j, (Value.slice ua U.l.length uc).ownBlock = some j → j ≠ Wc.heap.size) := Lib.hid (fun j hj e => by have h1 := LWc.out.lt j hj; omega)
        go_simp
        refine hK.out _ _ JWca.out.box (fun hHeld => ?_)
        clear hK K JWc QWc LWc
        try simp only [Act.put, List.setIfInBounds_toArray, List.set_cons_zero, List.set_cons_succ]
        generalize Wc.heap.size = b16 at GWca X6 NU ⊢
        generalize Wc.alloc (.cells #[.int .i64 0, .int .i64 0, .string ⟨#[]⟩, .slice none 0 0] 28) = Wca at *
        refine wpAnyH_ready (rs := [9]) (by kernel_rfl) (by simp) ?_
        refine AllReadyH.cons Kit.at9 (fun K hK => ?_) AllReadyH.nil
        go_simp
        refine (HOd.out _ _ _ (Nat.le_refl _) LWca.out).mono ?_; rintro e Wd ⟨⟨lv, rfl, hlv, hkp⟩, hBc⟩
        have hlv2 := hlv
        obtain ⟨oa, oc, hue, -⟩ := hlv2.len; subst hue
        have JWd := Lib.hid (JWca.out.later hBc)
        have LWd := Lib.hid hlv
        have QWd := Lib.hid (QWca.out.trans (hBc.mono QWca.out.size))
        have GWd := Lib.hid (GWca.out.moved (Kit.Moved.of_below hBc) (by have := GWca.out.c.lt; omega))
        have KX : Hid (∀ E, Moved (fun j => j = b16) Wd E → RepL E.heap.size E O.l (.slice oa O.l.length oc)) := Lib.hid (fun E hm => hkp b16 E GWca.out.c.lt (fun h => NU.out b16 h rfl) hm)
        refine hK.out _ _ JWd.out.box (fun hHeld => ?_)
        clear hK K hBc hlv hlv2 hkp JWca LWca QWca GWca
        try simp only [Act.put, List.setIfInBounds_toArray, List.set_cons_zero, List.set_cons_succ]
        obtain ⟨G5, Q5, K5⟩ : Hid (BoxF Wd b16 (.int .i64 0) (.int .i64 0) (.string ⟨#[]⟩) (.slice none 0 0)) ∧ Hid (Below W6.heap.size W6 Wd) ∧ Hid (∀ E, Moved (fun j => j = b16) Wd E → RepL E.heap.size E O.l (.slice oa O.l.length oc)) := ⟨GWd, QWd, KX⟩
        clear JWd GWd LWd QWd KX
        generalize Wd = W5 at *
    case' t10 =>
      have JW6a := Lib.hid (JW6.out.later (Kit.below_alloc W6 (.cells #[.int .i64 0, .int .i64 0, .string ⟨#[]⟩, .slice none 0 0] 28)))
      have QW6a := Lib.hid (QW6.out.trans ((Kit.below_alloc W6 (.cells #[.int .i64 0, .int .i64 0, .string ⟨#[]⟩, .slice none 0 0] 28)).mono QW6.out.size))
      have GW6a := Lib.hid (boxF_new W6 (.int .i64 0) (.int .i64 0) (.string ⟨#[]⟩) (.slice none 0 0) 28)
      go_simp
      refine hK.out _ _ JW6a.out.box (fun hHeld => ?_)
      clear hK K
      try simp only [Act.put, List.setIfInBounds_toArray, List.set_cons_zero, List.set_cons_succ]
      obtain ⟨b16, hb16⟩ : ∃ b, b = W6.heap.size := ⟨_, rfl⟩
      rw [← hb16] at GW6a ⊢
      have X6 : Hid (W6.heap.size ≤ b16) := Lib.hid (by omega)
      clear hb16
      generalize W6.alloc (.cells #[.int .i64 0, .int .i64 0, .string ⟨#[]⟩, .slice none 0 0] 28) = W6a at *
      refine wpAnyH_ready (rs := [1]) (by kernel_rfl) (by simp) ?_
      refine AllReadyH.cons Kit.at1 (fun K hK => ?_) AllReadyH.nil
      go_simp
      refine (HOz.out _ JW6a.out.below).mono ?_; rintro e Wc ⟨⟨lv, rfl, hlv, hfr⟩, hBc⟩
      obtain ⟨ua, uc, hue, -⟩ := hlv.len; subst hue
      have JWc := Lib.hid (JW6a.out.later hBc)
      have LWc := Lib.hid hlv
      have QWc := Lib.hid (QW6a.out.trans (hBc.mono QW6a.out.size))
      have GWc := Lib.hid (GW6a.out.moved (Kit.Moved.of_below hBc) (by have := GW6a.out.c.lt; omega))
      have NU : Hid (∀ j, (Value.slice ua U.l.length uc).ownBlock = some j → j ≠ b16) := Lib.hid (fun j hj e => by have h1 := hfr j hj; have h2 := GW6a.out.c.lt; omega)
      refine hK.out _ _ JWc.out.box (fun hHeld => ?_)
      clear hK K hBc hlv hfr JW6a QW6a GW6a
      try simp only [Act.put, List.setIfInBounds_toArray, List.set_cons_zero, List.set_cons_succ]
      refine wpAnyH_ready (rs := [9]) (by kernel_rfl) (by simp) ?_
      refine AllReadyH.cons Kit.at9 (fun K hK => ?_) AllReadyH.nil
      go_simp
      refine (HOd.out _ _ _ (Nat.le_refl _) LWc.out).mono ?_; rintro e Wd ⟨⟨lv, rfl, hlv, hkp⟩, hBc⟩
      have hlv2 := hlv
      obtain ⟨oa, oc, hue, -⟩ := hlv2.len; subst hue
      have JWd := Lib.hid (JWc.out.later hBc)
      have LWd := Lib.hid hlv
      have QWd := Lib.hid (QWc.out.trans (hBc.mono QWc.out.size))
      have GWd := Lib.hid (GWc.out.moved (Kit.Moved.of_below hBc) (by have := GWc.out.c.lt; omega))
      have KX : Hid (∀ E, Moved (fun j => j = b16) Wd E → RepL E.heap.size E O.l (.slice oa O.l.length oc)) := Lib.hid (fun E hm => hkp b16 E GWc.out.c.lt (fun h => NU.out b16 h rfl) hm)
      refine hK.out _ _ JWd.out.box (fun hHeld => ?_)
      clear hK K hBc hlv hlv2 hkp JWc LWc QWc GWc
      try simp only [Act.put, List.setIfInBounds_toArray, List.set_cons_zero, List.set_cons_succ]
      obtain ⟨G5, Q5, K5⟩ : Hid (BoxF Wd b16 (.int .i64 0) (.int .i64 0) (.string ⟨#[]⟩) (.slice none 0 0)) ∧ Hid (Below W6.heap.size W6 Wd) ∧ Hid (∀ E, Moved (fun j => j = b16) Wd E → RepL E.heap.size E O.l (.slice oa O.l.length oc)) := ⟨GWd, QWd, KX⟩
      clear JWd GWd LWd QWd KX
      generalize Wd = W5 at *
    all_goals
      obtain ⟨⟨y0, y1, y2, y3⟩, yf⟩ := G5.out
      have yf0 := yf 0
      have yf1 := yf 1
      have yf2 := yf 2
      have yf3 := yf 3
      clear yf
      have hm := end4b b16 W5 (.int .i64 O.k) (.int .i64 O.n) (.string O.s) (.slice oa O.l.length oc)
      have JE := Lib.hid (JW6.out.later (Q5.out.trans (hm.below (fun j hj => by have := X6.out; omega) Q5.out.size)))
      have FE : Hid (Bx _ b16 O _) := Lib.hid ⟨box_put4 G5.out _ _ _ _, K5.out _ hm⟩
      clear hm
      refine wpAnyH_ready (rs := [11]) (by kernel_rfl) (by simp) ?_
      refine AllReadyH.cons Kit.at11 (fun K hK => ?_) AllReadyH.nil
      go_simp
      refine hK.out _ _ JE.out.box (fun _ => wpAnyH_done (by kernel_rfl) ?_ _)
      go_wp2
      go_meet
      exact ⟨_, _, rfl, JE.out, FE.out⟩
  case rest =>
    obtain ⟨b16, olv, rfl, hJ, hF⟩ := hcut
    have JE := Lib.hid hJ
    have FE := Lib.hid hF
    obtain ⟨oa, oc, rfl, -⟩ := hF.2.len
    clear hJ hF p1 p2 p3 p4 HOy HOz HOd HU c1 c2 n1 n2 J4
    obtain ⟨p1, p2, p3, p4⟩ := JE.out.v.1
    obtain ⟨q1, q2, q3, q4⟩ := JE.out.y.1
    go_wp2_with fail
    refine (compare_any V Y _ _ _ _ (Nat.le_refl _) JE.out.v.rep JE.out.y.rep).mono ?_
    rintro e W7 ⟨rfl, hB⟩
    have J7 := Lib.hid (JE.out.later hB)
    have F7 := Lib.hid (FE.out.later hB)
    clear hB JE FE p1 p2 p3 p4 q1 q2 q3 q4
    obtain ⟨p1, p2, p3, p4⟩ := J7.out.y.1
    obtain ⟨q1, q2, q3, q4⟩ := F7.out.1
    go_wp2_with fail
    refine (compare_any Y O _ _ _ _ (Nat.le_refl _) J7.out.y.rep F7.out.rep).mono ?_
    rintro e W8 ⟨rfl, hB⟩
    have J8 := Lib.hid (J7.out.later hB)
    have F8 := Lib.hid (F7.out.later hB)
    clear hB J7 F7 p1 p2 p3 p4 q1 q2 q3 q4
    obtain ⟨p1, p2, p3, p4⟩ := J8.out.v.1
    obtain ⟨q1, q2, q3, q4⟩ := F8.out.1
    go_wp2_with fail
    refine (compare_any V O _ _ _ _ (Nat.le_refl _) J8.out.v.rep F8.out.rep).mono ?_
    rintro e W9 ⟨rfl, hB⟩
    have J9 := Lib.hid (J8.out.later hB)
    have F9 := Lib.hid (F8.out.later hB)
    clear hB J8 F8 p1 p2 p3 p4 q1 q2 q3 q4
    obtain ⟨p1, p2, p3, p4⟩ := J9.out.y.1
    obtain ⟨q1, q2, q3, q4⟩ := J9.out.v.1
    have HT := Lib.hid (order_facts V Y O)
    have C1 := fun W h1 h2 => compare_any Y V W.heap.size W (aggV Y.k Y.n Y.s (.slice wa Y.l.length wq)) (aggV V.k V.n V.s (.slice va V.l.length vc)) (Nat.le_refl _) h1 h2
    have C2 := fun W h1 h2 => compare_any O Y W.heap.size W (aggV O.k O.n O.s (.slice oa O.l.length oc)) (aggV Y.k Y.n Y.s (.slice wa Y.l.length wq)) (Nat.le_refl _) h1 h2
    have C3 := fun W h1 h2 => compare_any O V W.heap.size W (aggV O.k O.n O.s (.slice oa O.l.length oc)) (aggV V.k V.n V.s (.slice va V.l.length vc)) (Nat.le_refl _) h1 h2
    have C4 := fun W h1 h2 => same_any V Y W.heap.size W (aggV V.k V.n V.s (.slice va V.l.length vc)) (aggV Y.k Y.n Y.s (.slice wa Y.l.length wq)) (Nat.le_refl _) h1 h2
    have C5 := fun W h1 h2 => same_any V O W.heap.size W (aggV V.k V.n V.s (.slice va V.l.length vc)) (aggV O.k O.n O.s (.slice oa O.l.length oc)) (Nat.le_refl _) h1 h2
    unfold sameV at C4 C5
    generalize cmpV V Y = AB at *
    generalize cmpV Y V = BA at *
    generalize cmpV Y O = BC at *
    generalize cmpV O Y = CB at *
    generalize cmpV V O = AC at *
    generalize cmpV O V = CA at *
    have HC1 := Lib.hid C1
    have HC2 := Lib.hid C2
    have HC3 := Lib.hid C3
    have HC4 := Lib.hid C4
    have HC5 := Lib.hid C5
    obtain ⟨e1, e2, e3, f1, f2⟩ := HT.out.1
    clear C1 C2 C3 C4 C5
    go_wp2_with fail
    refine (HC1.out _ J9.out.y.rep J9.out.v.rep).mono ?_
    rintro e W10 ⟨rfl, hB⟩
    have J10 := Lib.hid (J9.out.later hB)
    have F10 := Lib.hid (F9.out.later hB)
    clear hB J9 F9 p1 p2 p3 p4 q1 q2 q3 q4
    obtain ⟨p1, p2, p3, p4⟩ := F10.out.1
    obtain ⟨q1, q2, q3, q4⟩ := J10.out.y.1
    go_wp2_with fail
    refine (HC2.out _ F10.out.rep J10.out.y.rep).mono ?_
    rintro e W11 ⟨rfl, hB⟩
    have J11 := Lib.hid (J10.out.later hB)
    have F11 := Lib.hid (F10.out.later hB)
    clear hB J10 F10 p1 p2 p3 p4 q1 q2 q3 q4
    obtain ⟨p1, p2, p3, p4⟩ := F11.out.1
    obtain ⟨q1, q2, q3, q4⟩ := J11.out.v.1
    go_wp2_with fail
    refine (HC3.out _ F11.out.rep J11.out.v.rep).mono ?_
    rintro e W12 ⟨rfl, hB⟩
    have J12 := Lib.hid (J11.out.later hB)
    have F12 := Lib.hid (F11.out.later hB)
    clear hB J11 F11 p1 p2 p3 p4 q1 q2 q3 q4
    go_upto_region 10 with fail
    go_cut [95] from 74 (fun v wx => v = .bool false ∧ wx = W12)
    case first =>
      have ht := HT.out.2
      go_wp2
      all_goals first
        | (exfalso; omega)
        | (go_meet; refine ⟨?_, rfl⟩; first | rfl | (congr 1; simp; omega))
    case rest =>
    obtain ⟨rfl, rfl⟩ := hcut
    have J13 := Lib.hid (J12.out.later ((Below.refl _ _).drew))
    have F13 := Lib.hid (F12.out.later ((Below.refl _ _).drew))
    have HSV := Lib.hid (show sameV V V = true from sameV_iff.2 rfl)
    have HCC := Lib.hid (cmpV_self O)
    have s0 := ordHeld J13.out F13.out
    go_wp2_with fail
    go_region_held3 (fun W' => W'.cell? ⟨W2.heap.size, 0, none⟩ = some (.int .i64 V.k) ∧ W'.cell? ⟨W2.heap.size, 1, none⟩ = some (.int .i64 V.n) ∧ W'.cell? ⟨W2.heap.size, 2, none⟩ = some (.string V.s) ∧ W'.cell? ⟨W2.heap.size, 3, none⟩ = some (.slice va V.l.length vc) ∧ W'.cell? ⟨W3.heap.size, 0, none⟩ = some (.int .i64 Y.k) ∧ W'.cell? ⟨W3.heap.size, 1, none⟩ = some (.int .i64 Y.n) ∧ W'.cell? ⟨W3.heap.size, 2, none⟩ = some (.string Y.s) ∧ W'.cell? ⟨W3.heap.size, 3, none⟩ = some (.slice wa Y.l.length wq) ∧ W'.cell? ⟨b16, 0, none⟩ = some (.int .i64 O.k) ∧ W'.cell? ⟨b16, 1, none⟩ = some (.int .i64 O.n) ∧ W'.cell? ⟨b16, 2, none⟩ = some (.string O.s) ∧ W'.cell? ⟨b16, 3, none⟩ = some (.slice oa O.l.length oc) ∧ W'.cell? ⟨w.heap.size, 0, none⟩ = some (.int .i64 x.k) ∧ W'.cell? ⟨w.heap.size, 1, none⟩ = some (.int .i64 x.n) ∧ W'.cell? ⟨w.heap.size, 2, none⟩ = some (.string x.s) ∧ W'.cell? ⟨w.heap.size, 3, none⟩ = some (.slice xa x.l.length xc))
      (first
        | exact s0
        | exact s14
        | exact s15
        | exact s16
        | exact s17
        | exact s18)
      (first
        | (go_at_call 13; refine (HC4.out _ J13.out.v.rep J13.out.y.rep).mono ?_; rintro e W14 ⟨rfl, hB⟩; have J14 := Lib.hid (J13.out.later hB); have F14 := Lib.hid (F13.out.later hB); have s14 := ordHeld J14.out F14.out; clear hB)
        | (go_at_call 13; refine (HC5.out _ J14.out.v.rep F14.out.rep).mono ?_; rintro e W15 ⟨rfl, hB⟩; have J15 := Lib.hid (J14.out.later hB); have F15 := Lib.hid (F14.out.later hB); have s15 := ordHeld J15.out F15.out; clear hB)
        | (go_at_call 10; refine (HOx.out _ J15.out.below).mono ?_; rintro e W16 ⟨⟨lv, rfl, hlv, -⟩, hB⟩; have J16 := Lib.hid (J15.out.later hB); have F16 := Lib.hid (F15.out.later hB); have s16 := ordHeld J16.out F16.out; have L16 := Lib.hid hlv; clear hB hlv)
        | (go_at_call 13; refine (same_any V V _ _ _ _ (Nat.le_refl _) J16.out.v.rep (rep_in L16.out)).mono ?_; rintro e W17 ⟨rfl, hB⟩; rw [HSV.out]; have J17 := Lib.hid (J16.out.later hB); have F17 := Lib.hid (F16.out.later hB); have s17 := ordHeld J17.out F17.out; clear hB)
        | (go_at_call 12; refine (compare_any O O _ _ _ _ (Nat.le_refl _) F17.out.rep F17.out.rep).mono ?_; rintro e W18 ⟨rfl, hB⟩; rw [HCC.out]; have J18 := Lib.hid (J17.out.later hB); have F18 := Lib.hid (F17.out.later hB); have s18 := ordHeld J18.out F18.out; clear hB))
    go_wp2
    go_ret
    exact ⟨ret_bool (by simp), J18.out.below⟩
theorem order_row {w : World} (x : Raw) (hx : x.Ok) (xlv : Value) (hl : RawL w x.l xlv) (y : Raw) (hy : y.Ok) (ylv : Value) (hm : RawL w y.l ylv) (z : Raw) (hz : z.Ok) (zlv : Value) (ho : RawL w z.l zlv) (c : Int) (c1 : -9223372036854775808 ≤ c) (c2 : c ≤ 9223372036854775807) (n : Int) (n1 : -9223372036854775808 ≤ n) (n2 : n ≤ 9223372036854775807) (s : ByteArray) (_hs : s.size ≤ 140737488351232) (ae : Addr) (hE : Env ae w) :
    Calls Tryd.prog 3 #[.agg #[.int .i64 x.k, .int .i64 x.n, .string x.s, xlv], .agg #[.int .i64 y.k, .int .i64 y.n, .string y.s, ylv], .agg #[.int .i64 z.k, .int .i64 z.n, .string z.s, zlv], .int .i64 c, .int .i64 n, .string s] w fun e w' => e = .returned (.bool true) ∧ Below w.heap.size w w' := orderlaw_any ae x y z hx hy hz c n c1 c2 n1 n2 s w xlv ylv zlv hl hm ho hE
end Go.Proofs.YtlcmphoamoiemaaDoor.Val
