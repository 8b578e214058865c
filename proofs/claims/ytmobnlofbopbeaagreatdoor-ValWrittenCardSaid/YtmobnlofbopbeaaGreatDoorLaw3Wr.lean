/- Layer 3's laws: ValWritten. -/
import Derived.Test.YtmobnlofbopbeaaGreatDoorMA
import Derived.Test.YtmobnlofbopbeaaGreatDoorMB
namespace Go.Proofs.YtmobnlofbopbeaaGreatDoor.Val
open Go.RowKit
open Kit (ret_int ret_bool Moved)

attribute [local go_sem] Oper.semAt_some

set_option maxRecDepth 100000 in
set_option maxHeartbeats 8000000 in
theorem written_any (ae : Addr) (x y : Raw) (hx : x.Ok) (hy : y.Ok) (sa sb : ByteArray) (ha : sa.size ≤ 140737488351232) (hb : sb.size ≤ 140737488351232) (w : World) (xlv ylv : Value) (hl : RawL w x.l xlv) (hm : RawL w y.l ylv) (hE : EnvT ae w) :
    Calls Tryz.prog 4 #[.agg #[.int .i64 x.k, .int .i64 x.n, .string x.s, xlv], .agg #[.int .i64 y.k, .int .i64 y.n, .string y.s, ylv], .string sa, .string sb] w fun e w' => e = .returned (.bool true) ∧ Below w.heap.size w w' := by
  have hr := valOf_right x
  have hq := valOf_right y
  have hOf := fun W (h : Below w.heap.size w W) => ValOf_any x hx W xlv (hl.below h)
  have hOg := fun W (h : Below w.heap.size w W) => ValOf_any y hy W ylv (hm.below h)
  unfold OfPost at hOf hOg
  generalize valOf x = V at *
  generalize valOf y = Y at *
  have hlen := wrV_len hr
  have hleny := wrV_len hq
  have hEn := fun (W : World) (v : Value) (hE' : EnvT ae W) (hv : Rep W.heap.size W V v) => Text_any V hr ae W v hE' hv
  have hEm := fun (W : World) (v : Value) (hE' : EnvT ae W) (hv : Rep W.heap.size W Y v) => Text_any Y hq ae W v hE' hv
  have hsame : (sameV V Y = true ∧ bs (wrV V) = bs (wrV Y)) ∨ (sameV V Y = false ∧ bs (wrV V) ≠ bs (wrV Y)) := by
    by_cases h : V = Y
    · subst h; exact .inl ⟨sameV_iff.2 rfl, rfl⟩
    · refine .inr ⟨by rw [← Bool.not_eq_true, sameV_iff]; exact h, fun e => h (wrV_inj hr hq ?_)⟩
      have := congrArg (fun b : ByteArray => b.data.toList) e
      simpa using this
  have hd1 : readR (sa.extract 0 (min (sa.size : Int) 20).toNat ++ bs (wrV V) ++ ⟨#[32]⟩ ++ sb.extract 0 (min (sb.size : Int) 20).toNat) ((min (min (sa.size : Int) 20).toNat sa.size : Nat) : Int) = .inr (V, ((min (min (sa.size : Int) 20).toNat sa.size : Nat) : Int) + ((bs (wrV V)).size : Int)) := by
    have h := readR_full (sa.data.toList.take (min (sa.size : Int) 20).toNat) (32 :: sb.data.toList.take (min (sb.size : Int) 20).toNat) V hr (.inr ⟨32, _, rfl, by decide, .inl (by decide)⟩)
    rw [List.length_take, data_len] at h
    rw [bs_size (wrV V), ← h]
    congr 1
    apply bytes_ext
    rw [add_list, add_list, add_list, extract_list, extract_list, bs_list, bs_list]
    simp
  have hd2 : readR (sa.extract 0 (min (sa.size : Int) 20).toNat ++ bs (wrV V)) ((min (min (sa.size : Int) 20).toNat sa.size : Nat) : Int) = .inr (V, ((min (min (sa.size : Int) 20).toNat sa.size : Nat) : Int) + ((bs (wrV V)).size : Int)) := by
    have h := readR_full (sa.data.toList.take (min (sa.size : Int) 20).toNat) [] V hr (.inl rfl)
    rw [List.length_take, data_len] at h
    rw [bs_size (wrV V), ← h]
    congr 1
    apply bytes_ext
    rw [add_list, extract_list, bs_list, bs_list]
    simp
  rw [← bs_size] at hlen hleny
  generalize bs (wrV V) = P at *
  generalize bs (wrV Y) = Q at *
  have hds1 : (sa.extract 0 (min (sa.size : Int) 20).toNat ++ P ++ ⟨#[32]⟩ ++ sb.extract 0 (min (sb.size : Int) 20).toNat).size ≤ 140737488351232 := by
    rw [add_size, add_size, add_size, ext_size, ext_size, show (ByteArray.mk #[32]).size = 1 from rfl]; omega
  have hds2 : (sa.extract 0 (min (sa.size : Int) 20).toNat ++ P).size ≤ 140737488351232 := by
    rw [add_size, ext_size]; omega
  have ad1 : ∀ W, (Op.stringOp .add (sa.extract 0 (min (sa.size : Int) 20).toNat) P).run Tryz.prog W = .ok (.string (sa.extract 0 (min (sa.size : Int) 20).toNat ++ P)) W := fun W => run_string_add_sum _ _ _ (by rw [ext_size]; omega)
  have ad2 : ∀ W, (Op.stringOp .add (sa.extract 0 (min (sa.size : Int) 20).toNat ++ P) ⟨#[32]⟩).run Tryz.prog W = .ok (.string (sa.extract 0 (min (sa.size : Int) 20).toNat ++ P ++ ⟨#[32]⟩)) W := fun W => run_string_add_sum _ _ _ (by rw [add_size, ext_size, show (ByteArray.mk #[32]).size = 1 from rfl]; omega)
  have ad3 : ∀ W, (Op.stringOp .add (sa.extract 0 (min (sa.size : Int) 20).toNat ++ P ++ ⟨#[32]⟩) (sb.extract 0 (min (sb.size : Int) 20).toNat)).run Tryz.prog W = .ok (.string (sa.extract 0 (min (sa.size : Int) 20).toNat ++ P ++ ⟨#[32]⟩ ++ sb.extract 0 (min (sb.size : Int) 20).toNat)) W := fun W => run_string_add_sum _ _ _ (by rw [add_size, add_size, ext_size, ext_size, show (ByteArray.mk #[32]).size = 1 from rfl]; omega)
  have HD := Lib.hid (And.intro hd1 (And.intro hd2 (And.intro hds1 (And.intro hds2 hsame))))
  have HE := Lib.hid (fun W (h : Below w.heap.size w W) => hE.below h)
  have HOf := Lib.hid hOf
  have HOg := Lib.hid hOg
  have HEn := Lib.hid hEn
  have HEm := Lib.hid hEm
  have HVV := Lib.hid (show sameV V V = true from sameV_iff.2 rfl)
  obtain ⟨xa, xc, rfl, -⟩ := hl.len
  obtain ⟨ya, yc, rfl, -⟩ := hm.len
  have B0 := Lib.hid (up (up (Below.refl w.heap.size w) (.cells #[.int .i64 x.k, .int .i64 x.n, .string x.s, .slice xa x.l.length xc] 24)) (.cells #[.int .i64 y.k, .int .i64 y.n, .string y.s, .slice ya y.l.length yc] 24))
  have A0 := Lib.hid ((Kit.box4_new w (.int .i64 x.k) (.int .i64 x.n) (.string x.s) (.slice xa x.l.length xc) 24).kept (.cells #[.int .i64 y.k, .int .i64 y.n, .string y.s, .slice ya y.l.length yc] 24))
  have C0 := Lib.hid (Kit.box4_new (w.alloc (.cells #[.int .i64 x.k, .int .i64 x.n, .string x.s, .slice xa x.l.length xc] 24)) (.int .i64 y.k) (.int .i64 y.n) (.string y.s) (.slice ya y.l.length yc) 24)
  simp only [World.size_alloc] at C0
  clear hE hOf hOg hl hm hx hy hr hq hEn hEm hd1 hd2 hsame hds1 hds2
  go_enter Tryz.func4, Tryz.ntmps4
  go_wp2_with fail
  refine (awake3_any ae _ (HE.out _ B0.out).env).mono ?_
  rintro e W1 ⟨rfl, hB⟩
  have B1 := Lib.hid (next B0.out hB)
  have C1 := Lib.hid (C0.out.below hB C0.out.lt)
  obtain ⟨p1, p2, p3, p4⟩ := A0.out.below hB A0.out.lt
  clear hB B0 A0 C0
  go_wp2_with fail
  refine (HOf.out _ B1.out).mono ?_
  rintro e W2 ⟨⟨lv, rfl, hlv, -⟩, hB⟩
  have B2 := Lib.hid (next B1.out hB)
  obtain ⟨va, vc, rfl, -⟩ := hlv.len
  have A2 := Lib.hid (Bx.new W2 V _ hlv)
  obtain ⟨p1, p2, p3, p4⟩ := (C1.out.below hB C1.out.lt).kept (.cells #[.int .i64 V.k, .int .i64 V.n, .string V.s, .slice va V.l.length vc] 30)
  clear hB hlv B1 C1
  go_wp2_with fail
  refine (HOg.out _ (up B2.out _)).mono ?_
  rintro e W3 ⟨⟨lv, rfl, hlv, -⟩, hB⟩
  have B3 := Lib.hid (up (next (up B2.out _) hB) (.cells #[.int .i64 Y.k, .int .i64 Y.n, .string Y.s, lv] 30))
  have A3 := Lib.hid ((A2.out.later hB).later (Kit.below_alloc _ (.cells #[.int .i64 Y.k, .int .i64 Y.n, .string Y.s, lv] 30)))
  have D3 := Lib.hid (Bx.new W3 Y _ hlv)
  obtain ⟨za, zc, rfl, -⟩ := hlv.len
  obtain ⟨q1, q2, q3, q4⟩ := A3.out.1
  clear hB hlv B2 A2 p1 p2 p3 p4
  go_wp2_with fail
  refine (HEn.out _ _ (HE.out _ B3.out) A3.out.rep).mono ?_
  rintro e W4 ⟨rfl, hB⟩
  have B4 := Lib.hid (next B3.out hB)
  have A4 := Lib.hid (A3.out.later hB)
  have D4 := Lib.hid (D3.out.later hB)
  obtain ⟨p1, p2, p3, p4⟩ := D4.out.1
  clear hB B3 A3 D3 q1 q2 q3 q4
  go_wp2_with fail
  refine (HEm.out _ _ (HE.out _ B4.out) D4.out.rep).mono ?_
  rintro e W5 ⟨rfl, hB⟩
  have B5 := Lib.hid (next B4.out hB)
  have A5 := Lib.hid (A4.out.later hB)
  have D5 := Lib.hid (D4.out.later hB)
  clear hB B4 A4 D4 p1 p2 p3 p4
  go_wp2_with fail
  refine (Read_any ae _ HD.out.2.2.1 _ _ (HE.out _ B5.out).env).mono ?_
  rintro e W6 ⟨hp, hB⟩
  rw [HD.out.1] at hp
  obtain ⟨lv, rfl, hlv, -⟩ := hp
  obtain ⟨ua, uc, rfl, -⟩ := hlv.len
  have B6 := Lib.hid (up (next B5.out hB) (.cells #[.int .i64 V.k, .int .i64 V.n, .string V.s, .slice ua V.l.length uc] 30))
  have A6 := Lib.hid ((A5.out.later hB).later (Kit.below_alloc _ (.cells #[.int .i64 V.k, .int .i64 V.n, .string V.s, .slice ua V.l.length uc] 30)))
  have D6 := Lib.hid ((D5.out.later hB).later (Kit.below_alloc _ (.cells #[.int .i64 V.k, .int .i64 V.n, .string V.s, .slice ua V.l.length uc] 30)))
  have F6 := Lib.hid (Bx.new W6 V _ hlv)
  clear hB hlv B5 A5 D5
  go_wp2_with fail
  refine (Read_any ae _ HD.out.2.2.2.1 _ _ (HE.out _ B6.out).env).mono ?_
  rintro e W7 ⟨hp, hB⟩
  rw [HD.out.2.1] at hp
  obtain ⟨lv, rfl, hlv, -⟩ := hp
  obtain ⟨ta, tc, rfl, -⟩ := hlv.len
  have B7 := Lib.hid (up (next B6.out hB) (.cells #[.int .i64 V.k, .int .i64 V.n, .string V.s, .slice ta V.l.length tc] 30))
  have A7 := Lib.hid ((A6.out.later hB).later (Kit.below_alloc _ (.cells #[.int .i64 V.k, .int .i64 V.n, .string V.s, .slice ta V.l.length tc] 30)))
  have D7 := Lib.hid ((D6.out.later hB).later (Kit.below_alloc _ (.cells #[.int .i64 V.k, .int .i64 V.n, .string V.s, .slice ta V.l.length tc] 30)))
  have F7 := Lib.hid ((F6.out.later hB).later (Kit.below_alloc _ (.cells #[.int .i64 V.k, .int .i64 V.n, .string V.s, .slice ta V.l.length tc] 30)))
  have G7 := Lib.hid (Bx.new W7 V _ hlv)
  clear hB hlv B6 A6 D6 F6
  obtain ⟨p1, p2, p3, p4⟩ := A7.out.1
  obtain ⟨q1, q2, q3, q4⟩ := D7.out.1
  go_wp2_with fail
  refine (refSame_any V Y _ _ _ _ (Nat.le_refl _) A7.out.rep D7.out.rep).mono ?_
  rintro e W8 ⟨rfl, hB⟩
  have B8 := Lib.hid (next B7.out hB)
  have A8 := Lib.hid (A7.out.later hB)
  have F8 := Lib.hid (F7.out.later hB)
  have G8 := Lib.hid (G7.out.later hB)
  clear hB B7 A7 D7 F7 G7 p1 p2 p3 p4 q1 q2 q3 q4
  obtain ⟨p1, p2, p3, p4⟩ := A8.out.1
  obtain ⟨q1, q2, q3, q4⟩ := F8.out.1
  go_wp2_with fail
  refine (refSame_any V V _ _ _ _ (Nat.le_refl _) F8.out.rep A8.out.rep).mono ?_
  rintro e W9 ⟨rfl, hB⟩
  rw [HVV.out]
  have B9 := Lib.hid (next B8.out hB)
  have A9 := Lib.hid (A8.out.later hB)
  have G9 := Lib.hid (G8.out.later hB)
  clear hB B8 A8 F8 G8 p1 p2 p3 p4 q1 q2 q3 q4
  obtain ⟨p1, p2, p3, p4⟩ := A9.out.1
  obtain ⟨q1, q2, q3, q4⟩ := G9.out.1
  go_wp2_with fail
  refine (refSame_any V V _ _ _ _ (Nat.le_refl _) G9.out.rep A9.out.rep).mono ?_
  rintro e W10 ⟨rfl, hB⟩
  rw [HVV.out]
  have B10 := Lib.hid (next B9.out hB)
  clear hB B9 A9 G9 p1 p2 p3 p4 q1 q2 q3 q4
  rcases HD.out.2.2.2.2 with ⟨hs, he⟩ | ⟨hs, he⟩
  · rw [hs]
    have hq : (P.toList == Q.toList) = true := by rw [he]; simp
    have hpq := Lib.hid he
    clear he hs
    go_wp2
    go_ret
    exact ⟨ret_bool (by simp), B10.out⟩
  · rw [hs]
    have hq : (P.toList == Q.toList) = false := beq_eq_false_iff_ne.2 fun h => he (Kit.bytes_inj h)
    clear he hs
    go_wp2
    go_ret
    exact ⟨ret_bool (by simp), B10.out⟩
theorem written_row {w : World} (x : Raw) (hx : x.Ok) (xlv : Value) (hl : RawL w x.l xlv) (y : Raw) (hy : y.Ok) (ylv : Value) (hm : RawL w y.l ylv) (sa : ByteArray) (ha : sa.size ≤ 140737488351232) (sb : ByteArray) (hb : sb.size ≤ 140737488351232) (ae : Addr) (hE : EnvT ae w) :
    Calls Tryz.prog 4 #[.agg #[.int .i64 x.k, .int .i64 x.n, .string x.s, xlv], .agg #[.int .i64 y.k, .int .i64 y.n, .string y.s, ylv], .string sa, .string sb] w fun e w' => e = .returned (.bool true) ∧ Below w.heap.size w w' := written_any ae x y hx hy sa sb ha hb w xlv ylv hl hm hE
end Go.Proofs.YtmobnlofbopbeaaGreatDoor.Val
