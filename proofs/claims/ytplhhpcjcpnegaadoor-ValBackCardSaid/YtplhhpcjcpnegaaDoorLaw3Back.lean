/- Layer 3's laws: ValBack. -/
import Derived.Test.YtplhhpcjcpnegaaDoorLaw3Cut
namespace Go.Proofs.YtplhhpcjcpnegaaDoor.Val
open Go.RowKit
open Kit (ret_int ret_bool Moved)

attribute [local go_sem] Oper.semAt_some

theorem ext_size (s : ByteArray) (m : Nat) : (s.extract 0 m).size = min m s.size := by rw [← data_len, extract_list, List.length_take, List.length_drop, data_len]; omega
/-- One's bytes begin another one's just if they are the same. -/
theorem begins_same {V Y : Vl} (hr : rightV V = true) (hq : rightV Y = true) :
    (sameV V Y = true ∧ (bs (encV V)).size ≤ (bs (encV Y)).size ∧ (bs (encV Y)).extract 0 (min ((bs (encV V)).size : Int) ((bs (encV Y)).size : Int)).toNat = bs (encV V)) ∨
    (sameV V Y = false ∧ (bs (encV V)).size ≤ (bs (encV Y)).size ∧ (bs (encV Y)).extract 0 (min ((bs (encV V)).size : Int) ((bs (encV Y)).size : Int)).toNat ≠ bs (encV V)) ∨
    (sameV V Y = false ∧ ¬ (bs (encV V)).size ≤ (bs (encV Y)).size) := by
  simp only [bs_size]
  by_cases hle : (encV V).length ≤ (encV Y).length
  · have hmin : (min ((encV V).length : Int) ((encV Y).length : Int)).toNat = (encV V).length := by omega
    rw [hmin, take_bs]
    by_cases hs : V = Y
    · subst hs
      left
      exact ⟨sameV_iff.2 rfl, hle, by rw [List.take_length]⟩
    · right; left
      refine ⟨by rw [← Bool.not_eq_true, sameV_iff]; exact hs, hle, fun h => hs ?_⟩
      have h2 : (encV Y).take (encV V).length = encV V := by
        have := congrArg (fun b : ByteArray => b.data.toList) h
        simpa using this
      refine encV_begins hr hq (t := (encV Y).drop (encV V).length) ?_
      conv => lhs; rw [← List.take_append_drop (encV V).length (encV Y), h2]
  · right; right
    refine ⟨by rw [← Bool.not_eq_true, sameV_iff]; rintro rfl; exact hle (Nat.le_refl _), hle⟩

set_option maxRecDepth 100000 in
set_option maxHeartbeats 8000000 in
theorem back_any (ae : Addr) (x y : Raw) (hx : x.Ok) (hy : y.Ok) (sa sb : ByteArray) (ha : sa.size ≤ 140737488351232) (hb : sb.size ≤ 140737488351232) (w : World) (xlv ylv : Value) (hl : RawL w x.l xlv) (hm : RawL w y.l ylv) (hE : Env ae w) :
    Calls Tryd.prog 3 #[.agg #[.int .i64 x.k, .int .i64 x.n, .string x.s, xlv], .agg #[.int .i64 y.k, .int .i64 y.n, .string y.s, ylv], .string sa, .string sb] w fun e w' => e = .returned (.bool true) ∧ Below w.heap.size w w' := by
  have hr := valOf_right x
  have hq := valOf_right y
  have hOf := fun W (h : Below w.heap.size w W) => ValOf_any x hx W xlv (hl.below h)
  have hOg := fun W (h : Below w.heap.size w W) => ValOf_any y hy W ylv (hm.below h)
  unfold OfPost at hOf hOg
  generalize valOf x = V at *
  generalize valOf y = Y at *
  have hlen := encV_len hr
  have hleny := encV_len hq
  have hEn := fun (W : World) (v : Value) (hE' : Env ae W) (hv : Rep W.heap.size W V v) => Encode_any ae V (rightV_enc hr).fits _ W v (Nat.le_refl _) hE' hv
  have hEm := fun (W : World) (v : Value) (hE' : Env ae W) (hv : Rep W.heap.size W Y v) => Encode_any ae Y (rightV_enc hq).fits _ W v (Nat.le_refl _) hE' hv
  simp only [hr, if_true] at hEn
  simp only [hq, if_true] at hEm
  rw [← bs_size] at hlen hleny
  have j1 : ¬ 9223372036854775807 < min (min (sa.size : Int) 20).toNat sa.size + (bs (encV V)).size := by omega
  have j2 : ¬ 9223372036854775807 < min (min (sa.size : Int) 20).toNat sa.size + (bs (encV V)).size + min (min (sb.size : Int) 20).toNat sb.size := by omega
  have hd : decR (sa.extract 0 (min (sa.size : Int) 20).toNat ++ bs (encV V) ++ sb.extract 0 (min (sb.size : Int) 20).toNat) ((min (min (sa.size : Int) 20).toNat sa.size : Nat) : Int) = .inr (V, ((min (min (sa.size : Int) 20).toNat sa.size : Nat) : Int) + ((bs (encV V)).size : Int)) := by
    rw [bs_size (encV V)]
    have h := decR_full (sa.data.toList.take (min (sa.size : Int) 20).toNat) (sb.data.toList.take (min (sb.size : Int) 20).toNat) V hr
    rw [List.length_take, data_len] at h
    rw [← h, ← bs_append, ← bs_append, ← take_bs, ← take_bs, bs_data, bs_data, ByteArray.append_assoc]
  have hbg := begins_same hr hq
  have hds : (sa.extract 0 (min (sa.size : Int) 20).toNat ++ bs (encV V) ++ sb.extract 0 (min (sb.size : Int) 20).toNat).size ≤ 140737488351232 := by
    rw [add_size, add_size, ext_size, ext_size]; omega
  generalize bs (encV V) = P at *
  generalize bs (encV Y) = Q at *
  have HD := Lib.hid (And.intro hd (And.intro hbg hds))
  have HE := Lib.hid (fun W (h : Below w.heap.size w W) => hE.below h)
  have HOf := Lib.hid hOf
  have HOg := Lib.hid hOg
  have HEn := Lib.hid hEn
  have HEm := Lib.hid hEm
  have HR := Lib.hid (And.intro hr hq)
  obtain ⟨xa, xc, rfl, -⟩ := hl.len
  obtain ⟨ya, yc, rfl, -⟩ := hm.len
  have B0 := Lib.hid (up (up (Below.refl w.heap.size w) (.cells #[.int .i64 x.k, .int .i64 x.n, .string x.s, .slice xa x.l.length xc] 24)) (.cells #[.int .i64 y.k, .int .i64 y.n, .string y.s, .slice ya y.l.length yc] 24))
  have A0 := Lib.hid ((Kit.box4_new w (.int .i64 x.k) (.int .i64 x.n) (.string x.s) (.slice xa x.l.length xc) 24).kept (.cells #[.int .i64 y.k, .int .i64 y.n, .string y.s, .slice ya y.l.length yc] 24))
  have C0 := Lib.hid (Kit.box4_new (w.alloc (.cells #[.int .i64 x.k, .int .i64 x.n, .string x.s, .slice xa x.l.length xc] 24)) (.int .i64 y.k) (.int .i64 y.n) (.string y.s) (.slice ya y.l.length yc) 24)
  simp only [World.size_alloc] at C0
  clear hE hOf hOg hl hm hx hy hr hq hEn hEm hd hbg hds
  go_enter Tryd.func3, Tryd.ntmps3
  go_wp2_with fail
  refine (awake3_any ae _ (HE.out _ B0.out)).mono ?_
  rintro e W1 ⟨rfl, hB⟩
  have B1 := Lib.hid (next B0.out hB)
  have C1 := Lib.hid (C0.out.below hB C0.out.lt)
  obtain ⟨p1, p2, p3, p4⟩ := A0.out.below hB A0.out.lt
  clear hB B0 A0 C0
  go_wp2_with fail
  refine (HOf.out _ B1.out).mono ?_
  rintro e W2 ⟨⟨lv, rfl, hlv, -⟩, hB⟩
  have B2 := Lib.hid (next B1.out hB)
  obtain ⟨va, vc, rfl, -⟩ := hlv.len
  have A2 := Lib.hid (Bx.new W2 V _ hlv)
  obtain ⟨p1, p2, p3, p4⟩ := (C1.out.below hB C1.out.lt).kept (.cells #[.int .i64 V.k, .int .i64 V.n, .string V.s, .slice va V.l.length vc] 28)
  clear hB hlv B1 C1
  go_wp2_with fail
  refine (HOg.out _ (up B2.out _)).mono ?_
  rintro e W3 ⟨⟨lv, rfl, hlv, -⟩, hB⟩
  have B3 := Lib.hid (up (next (up B2.out _) hB) (.cells #[.int .i64 Y.k, .int .i64 Y.n, .string Y.s, lv] 28))
  have A3 := Lib.hid ((A2.out.later hB).later (Kit.below_alloc _ (.cells #[.int .i64 Y.k, .int .i64 Y.n, .string Y.s, lv] 28)))
  have D3 := Lib.hid (Bx.new W3 Y _ hlv)
  obtain ⟨za, zc, rfl, -⟩ := hlv.len
  obtain ⟨q1, q2, q3, q4⟩ := A3.out.1
  clear hB hlv B2 A2 p1 p2 p3 p4
  go_wp2_with fail
  refine (HEn.out _ _ (HE.out _ B3.out) A3.out.rep).mono ?_
  rintro e W4 ⟨rfl, hB⟩
  have B4 := Lib.hid (next B3.out hB)
  have A4 := Lib.hid (A3.out.later hB)
  have D4 := Lib.hid (D3.out.later hB)
  obtain ⟨p1, p2, p3, p4⟩ := D4.out.1
  clear hB B3 A3 D3 q1 q2 q3 q4
  go_wp2_with fail
  refine (HEm.out _ _ (HE.out _ B4.out) D4.out.rep).mono ?_
  rintro e W5 ⟨rfl, hB⟩
  have B5 := Lib.hid (next B4.out hB)
  have A5 := Lib.hid (A4.out.later hB)
  have D5 := Lib.hid (D4.out.later hB)
  clear hB B4 A4 D4 p1 p2 p3 p4
  go_wp2_with fail
  refine (Decode_any ae _ HD.out.2.2 _ _ (HE.out _ B5.out)).mono ?_
  rintro e W6 ⟨hp, hB⟩
  rw [HD.out.1] at hp
  obtain ⟨lv, rfl, hlv, -⟩ := hp
  obtain ⟨ua, uc, rfl, -⟩ := hlv.len
  have B6 := Lib.hid (up (next B5.out hB) (.cells #[.int .i64 V.k, .int .i64 V.n, .string V.s, .slice ua V.l.length uc] 28))
  have A6 := Lib.hid ((A5.out.later hB).later (Kit.below_alloc _ (.cells #[.int .i64 V.k, .int .i64 V.n, .string V.s, .slice ua V.l.length uc] 28)))
  have D6 := Lib.hid ((D5.out.later hB).later (Kit.below_alloc _ (.cells #[.int .i64 V.k, .int .i64 V.n, .string V.s, .slice ua V.l.length uc] 28)))
  have F6 := Lib.hid (Bx.new W6 V _ hlv)
  obtain ⟨p1, p2, p3, p4⟩ := A6.out.1
  obtain ⟨q1, q2, q3, q4⟩ := D6.out.1
  clear hB hlv B5 A5 D5
  have hvv : sameV V V = true := sameV_iff.2 rfl
  rcases HD.out.2.1 with ⟨hs, hle, hex⟩ | ⟨hs, hle, hex⟩ | ⟨hs, hle⟩
  case' inr.inl => have hex2 : ((Q.extract 0 (min (P.size : Int) (Q.size : Int)).toNat).toList == P.toList) = false := beq_eq_false_iff_ne.2 fun h => hex (Kit.bytes_inj h)
  all_goals
    have HS := Lib.hid (And.intro hs hvv)
    clear hs hvv
    go_wp2_with fail
    refine (refSame_any V Y _ _ _ _ (Nat.le_refl _) A6.out.rep D6.out.rep).mono ?_
    rintro e W7 ⟨rfl, hB⟩
    rw [HS.out.1]
    have B7 := Lib.hid (next B6.out hB)
    have A7 := Lib.hid (A6.out.later hB)
    have F7 := Lib.hid ((F6.out).later hB)
    clear hB B6 A6 D6 F6 p1 p2 p3 p4 q1 q2 q3 q4
    obtain ⟨p1, p2, p3, p4⟩ := A7.out.1
    obtain ⟨q1, q2, q3, q4⟩ := F7.out.1
    go_wp2_with fail
    refine (refSame_any V V _ _ _ _ (Nat.le_refl _) F7.out.rep A7.out.rep).mono ?_
    rintro e W8 ⟨rfl, hB⟩
    rw [HS.out.2]
    have B8 := Lib.hid (next B7.out hB)
    clear hB B7 A7 F7 p1 p2 p3 p4 q1 q2 q3 q4
    go_wp2_with fail
    go_ret
    exact ⟨ret_bool rfl, B8.out⟩
end Go.Proofs.YtplhhpcjcpnegaaDoor.Val
