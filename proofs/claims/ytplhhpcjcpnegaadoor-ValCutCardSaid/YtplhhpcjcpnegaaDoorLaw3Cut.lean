/- Layer 3's laws: ValCut. -/
import Derived.Test.YtplhhpcjcpnegaaDoorLaw3Awake
import Derived.Test.YtplhhpcjcpnegaaDoorValDecFull
namespace Go.Proofs.YtplhhpcjcpnegaaDoor.Val
open Go.RowKit
open Kit (ret_int ret_bool Moved)

attribute [local go_sem] Oper.semAt_some

def listIn : Vl := .mk 5 0 (bs []) [flat 5 0 (bs [])]
def listOne : Vl := .mk 5 0 (bs []) [flat 0 0 (bs [])]
theorem cut1 : rightV listIn = false := by kernel_rfl
theorem cut2 : rightV listOne = true ∧ encV listOne = [10, 2, 0] := ⟨by kernel_rfl, by kernel_rfl⟩
theorem cut3 : decR ((bs [10, 2, 0]).extract 0 2 ++ ⟨#[10, 0]⟩) 0 = .inl 30 := by kernel_rfl
theorem cut4 : sameV (flat 0 0 (bs [])) (flat 0 0 (bs [])) = true := by kernel_rfl
theorem one_fits (k : Int) : (Vl.mk 5 0 (bs []) [flat k 0 (bs [])]).fits := ⟨by show (bs []).size ≤ _; decide, fun y hy => by
  simp only [Vl.l, List.mem_cons, List.not_mem_nil, or_false] at hy
  subst hy; show (bs []).size ≤ _; decide⟩
theorem one_new (W : World) (k : Int) : Rep (W.alloc (.cells #[.int .i64 k, .int .i64 0, .string ⟨#[]⟩, .slice none 0 0] 28)).heap.size (W.alloc (.cells #[.int .i64 k, .int .i64 0, .string ⟨#[]⟩, .slice none 0 0] 28)) (.mk 5 0 (bs []) [flat k 0 (bs [])]) (.agg #[.int .i64 5, .int .i64 0, .string ⟨#[]⟩, .slice (some ⟨W.heap.size, 0, none⟩) 1 1]) := by
  refine rep_mk.2 ⟨_, rfl, .inr ⟨W.heap.size, 0, 1, by simp, by simp, rfl, Nat.le_refl 1, by decide, repC_flat _ _ ?_ ?_⟩⟩
  · intro y hy
    simp only [List.mem_cons, List.not_mem_nil, or_false] at hy
    subst hy; rfl
  · intro j u hu
    rw [show [flat k 0 (bs [])].flatMap cellsF = [.int .i64 k, .int .i64 0, .string ⟨#[]⟩, .slice none 0 0] from rfl] at hu
    exact Kit.cell_new W _ _ (0 + j) (by simpa using hu)
theorem take_bs (l : List UInt8) (k : Nat) : (bs l).extract 0 k = bs (l.take k) := by
  apply bytes_ext
  rw [extract_list, bs_list, bs_list]
  simp

set_option maxRecDepth 100000 in
set_option maxHeartbeats 8000000 in
theorem cut_any (ae : Addr) (x : Raw) (hx : x.Ok) (c : Int) (c1 : -9223372036854775808 ≤ c) (c2 : c ≤ 9223372036854775807) (w : World) (xlv : Value) (hl : RawL w x.l xlv) (hE : Env ae w) :
    Calls Tryd.prog 5 #[.agg #[.int .i64 x.k, .int .i64 x.n, .string x.s, xlv], .int .i64 c] w fun e w' => e = .returned (.bool true) ∧ Below w.heap.size w w' := by
  have hr := valOf_right x
  have hOf := fun W (h : Below w.heap.size w W) => ValOf_any x hx W xlv (hl.below h)
  unfold OfPost at hOf
  generalize valOf x = V at *
  have hlen := encV_len hr
  have hpos : 0 < (encV V).length := List.length_pos_iff.2 (encV_ne V)
  have hk := pickN_lt c hpos
  have hP := pick_any c c1 c2 (encV V).length hpos (by omega)
  have hcut := decR_cut hr (pickN c (encV V).length) hk
  have hfit := (rightV_enc hr).fits
  have hEn := fun (W : World) (v : Value) (hE' : Env ae W) (hv : Rep W.heap.size W V v) => Encode_any ae V hfit _ W v (Nat.le_refl _) hE' hv
  simp only [hr, if_true] at hEn
  rw [← take_bs] at hcut
  rw [← bs_size] at hlen hpos hk hP hcut
  have HE := Lib.hid (fun W (h : Below w.heap.size w W) => hE.below h)
  have HOf := Lib.hid hOf
  have HEn := Lib.hid hEn
  clear hr hfit hEn
  generalize bs (encV V) = P at *
  generalize pickN c P.size = K at *
  have HK := Lib.hid (And.intro hP hcut)
  have i1 : ((P.size : Int) == 0) = false := beq_eq_false_iff_ne.2 (by omega)
  have hxs : (P.extract 0 K).size ≤ 140737488351232 := by rw [← data_len, extract_list, List.length_take, List.length_drop, data_len]; omega
  have i2 : (0 : Int) ≤ (K : Int) := by omega
  have i3 : (K : Int) ≤ (P.size : Int) := by omega
  obtain ⟨xa, xc, rfl, -⟩ := hl.len
  have B0 := Lib.hid (up (Below.refl w.heap.size w) (.cells #[.int .i64 x.k, .int .i64 x.n, .string x.s, .slice xa x.l.length xc] 24))
  have A0 := Lib.hid (Kit.box4_new w (.int .i64 x.k) (.int .i64 x.n) (.string x.s) (.slice xa x.l.length xc) 24)
  clear hE hOf hl hx c1 c2 hP hcut
  go_enter Tryd.func5, Tryd.ntmps5
  go_wp2_with fail
  refine (awake3_any ae _ (HE.out _ B0.out)).mono ?_
  rintro e W1 ⟨rfl, hB⟩
  have B1 := Lib.hid (next B0.out hB)
  obtain ⟨p1, p2, p3, p4⟩ := A0.out.below hB A0.out.lt
  clear hB B0 A0
  go_wp2_with fail
  refine (HOf.out _ B1.out).mono ?_
  rintro e W2 ⟨⟨lv, rfl, hlv, -⟩, hB⟩
  have B2 := Lib.hid (next B1.out hB)
  obtain ⟨va, vc, rfl, -⟩ := hlv.len
  have A2 := Lib.hid (Bx.new W2 V _ hlv)
  clear hB hlv B1 p1 p2 p3 p4
  go_wp2_with fail
  refine (HEn.out _ _ (HE.out _ (up B2.out _)) A2.out.rep).mono ?_
  rintro e W3 ⟨rfl, hB⟩
  have B3 := Lib.hid (next (up B2.out _) hB)
  clear hB B2 A2
  go_wp2_with fail
  refine (HK.out.1 _).mono ?_
  rintro e W4 ⟨rfl, rfl⟩
  go_wp2_with fail
  refine (Decode_any ae _ hxs _ _ (HE.out _ B3.out)).mono ?_
  rintro e W5 ⟨hp, hB⟩
  rw [HK.out.2] at hp
  obtain rfl := dec_err hp
  have B5 := Lib.hid (up (next B3.out hB) (.cells #[.int .i64 0, .int .i64 0, .string (bs []), .slice none 0 0] 28))
  have D5 := Lib.hid (Bx.new W5 (flat 0 0 (bs [])) (.slice none 0 0) (.inl ⟨rfl, rfl⟩))
  clear hB hp B3
  go_wp2_with fail
  have R5 := (one_new (W5.alloc (.cells #[.int .i64 0, .int .i64 0, .string (bs []), .slice none 0 0] 28)) 5).below (Kit.below_alloc _ (.cells #[.int .i64 5, .int .i64 0, .string ⟨#[]⟩, .slice (some ⟨W5.heap.size + 1, 0, none⟩) 1 1] 28)) (Nat.le_refl _)
  rw [World.size_alloc (w := W5)] at R5
  refine (Encode_any ae listIn (one_fits 5) _ _ _ (by simp) (HE.out _ (up (up B5.out (.cells #[.int .i64 5, .int .i64 0, .string ⟨#[]⟩, .slice none 0 0] 28)) (.cells #[.int .i64 5, .int .i64 0, .string ⟨#[]⟩, .slice (some ⟨W5.heap.size + 1, 0, none⟩) 1 1] 28))) R5).mono ?_
  rintro e W6 ⟨rfl, hB⟩
  rw [if_neg (by rw [cut1]; decide)]
  have B6 := Lib.hid (next (up (up B5.out (.cells #[.int .i64 5, .int .i64 0, .string ⟨#[]⟩, .slice none 0 0] 28)) (.cells #[.int .i64 5, .int .i64 0, .string ⟨#[]⟩, .slice (some ⟨W5.heap.size + 1, 0, none⟩) 1 1] 28)) hB)
  have D6 := Lib.hid (((D5.out.later (Kit.below_alloc _ (.cells #[.int .i64 5, .int .i64 0, .string ⟨#[]⟩, .slice none 0 0] 28))).later (Kit.below_alloc _ (.cells #[.int .i64 5, .int .i64 0, .string ⟨#[]⟩, .slice (some ⟨W5.heap.size + 1, 0, none⟩) 1 1] 28))).later hB)
  clear hB R5 B5 D5
  go_wp2_with fail
  refine (Encode_any ae listOne (one_fits 0) _ _ _ (Nat.le_refl _) (HE.out _ (up B6.out (.cells #[.int .i64 0, .int .i64 0, .string ⟨#[]⟩, .slice none 0 0] 28))) (one_new W6 0)).mono ?_
  rintro e W7 ⟨rfl, hB⟩
  rw [if_pos cut2.1, cut2.2]
  have B7 := Lib.hid (next (up B6.out (.cells #[.int .i64 0, .int .i64 0, .string ⟨#[]⟩, .slice none 0 0] 28)) hB)
  have D7 := Lib.hid ((D6.out.later (Kit.below_alloc _ (.cells #[.int .i64 0, .int .i64 0, .string ⟨#[]⟩, .slice none 0 0] 28))).later hB)
  clear hB B6 D6
  go_wp2_with fail
  refine (Decode_any ae _ (by decide) _ _ (HE.out _ B7.out)).mono ?_
  rintro e W8 ⟨hp, hB⟩
  rw [cut3] at hp
  obtain rfl := dec_err hp
  have B8 := Lib.hid (up (next B7.out hB) (.cells #[.int .i64 0, .int .i64 0, .string (bs []), .slice none 0 0] 28))
  have D8 := Lib.hid ((D7.out.later hB).later (Kit.below_alloc _ (.cells #[.int .i64 0, .int .i64 0, .string (bs []), .slice none 0 0] 28)))
  obtain ⟨q1, q2, q3, q4⟩ := D8.out.1
  clear hB hp B7 D7
  go_wp2_with fail
  refine (refSame_any (flat 0 0 (bs [])) (flat 0 0 (bs [])) _ _ _ _ (Nat.le_refl _) D8.out.rep rep_flat).mono ?_
  rintro e W9 ⟨rfl, hB⟩
  rw [cut4]
  have B9 := Lib.hid (next B8.out hB)
  clear hB B8 D8 q1 q2 q3 q4
  go_wp2_with fail
  go_ret
  exact ⟨ret_bool rfl, B9.out⟩
end Go.Proofs.YtplhhpcjcpnegaaDoor.Val
