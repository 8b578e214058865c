/- Layer 4's laws: ClassBack. -/
import Derived.Test.YtlcmphoamoiemaaDoorLaw4Ex
import Derived.Test.YtlcmphoamoiemaaDoorClassMath2
namespace Go.Proofs.YtlcmphoamoiemaaDoor.Cls
open Go.RowKit
open Kit (ret_int ret_bool Moved)
open Val (Env flat bs bs_size bs_list bs_data bs_append data_len Vl Rep RepL)

attribute [local go_sem] Oper.semAt_some

theorem take_bs (l : List UInt8) (k : Nat) : (bs l).extract 0 k = bs (l.take k) := by
  apply bytes_ext
  rw [extract_list, bs_list, bs_list]
  simp
theorem ext_size (s : ByteArray) (m : Nat) : (s.extract 0 m).size = min m s.size := by rw [← data_len, extract_list, List.length_take, List.length_drop, data_len]; omega

/-- What lies in memory: the raw classes' boxes. -/
structure BkJ (w : World) (x y : Raw4) (xlv ylv : Value) (W : World) : Prop where
  x0 : W.cell? ⟨w.heap.size, 0, none⟩ = some (.int .i64 x.n)
  x1 : W.cell? ⟨w.heap.size, 1, none⟩ = some xlv
  y0 : W.cell? ⟨w.heap.size + 1, 0, none⟩ = some (.int .i64 y.n)
  y1 : W.cell? ⟨w.heap.size + 1, 1, none⟩ = some ylv
  below : Below w.heap.size w W
theorem BkJ.later {w : World} {x y : Raw4} {xlv ylv : Value} {W W' : World} (h : BkJ w x y xlv ylv W) (hB : Below W.heap.size W W') : BkJ w x y xlv ylv W' :=
  ⟨(hB.cell (p := ⟨w.heap.size, 0, none⟩) (Kit.lt_of_cell h.x0)).trans h.x0, (hB.cell (p := ⟨w.heap.size, 1, none⟩) (Kit.lt_of_cell h.x1)).trans h.x1, (hB.cell (p := ⟨w.heap.size + 1, 0, none⟩) (Kit.lt_of_cell h.y0)).trans h.y0, (hB.cell (p := ⟨w.heap.size + 1, 1, none⟩) (Kit.lt_of_cell h.y1)).trans h.y1, next h.below hB⟩
theorem BkJ.begins (w : World) (x y : Raw4) (xlv ylv : Value) : BkJ w x y xlv ylv ((w.alloc (.cells #[.int .i64 x.n, xlv] 36)).alloc (.cells #[.int .i64 y.n, ylv] 36)) := by
  have h0 := Kit.cell_new (w.alloc (.cells #[.int .i64 x.n, xlv] 36)) #[.int .i64 y.n, ylv] 36 0 rfl
  have h1 := Kit.cell_new (w.alloc (.cells #[.int .i64 x.n, xlv] 36)) #[.int .i64 y.n, ylv] 36 1 rfl
  rw [World.size_alloc] at h0 h1
  exact ⟨Kit.cell_kept _ (Kit.cell_new w #[.int .i64 x.n, xlv] 36 0 rfl), Kit.cell_kept _ (Kit.cell_new w #[.int .i64 x.n, xlv] 36 1 rfl), h0, h1, Kit.below_alloc2 w _ _⟩

set_option maxRecDepth 100000 in
set_option maxHeartbeats 8000000 in
theorem back4_any (ae : Addr) (x y : Raw4) (hx : x.Ok) (hy : y.Ok) (sa sb : ByteArray) (ha : sa.size ≤ 140737488351232) (hb : sb.size ≤ 140737488351232) (c : UInt8) (w : World) (xlv ylv : Value) (hl : FRawL w x.l xlv) (hm : FRawL w y.l ylv) (hE : Env ae w) :
    Calls Tryd.prog 5 #[.agg #[.int .i64 x.n, xlv], .agg #[.int .i64 y.n, ylv], .string sa, .string sb, .int .u8 (c.toNat : Int)] w fun e w' => e = .returned (.bool true) ∧ Below w.heap.size w w' := by
  have hr := classOf_right x
  have hq := classOf_right y
  have hOf := fun W (h : Below w.heap.size w W) => ClassOf_any x hx W xlv (hl.below h)
  have hOg := fun W (h : Below w.heap.size w W) => ClassOf_any y hy W ylv (hm.below h)
  generalize classOf x = V at *
  generalize classOf y = Y at *
  have hlen := encC_len hr
  have hleny := encC_len hq
  have hEn := fun (W : World) (lv : Value) (hE' : Env ae W) (hv : FdL W.heap.size W V.l lv) => Encode_any ae V _ W lv (Nat.le_refl _) hE' hv
  have hEm := fun (W : World) (lv : Value) (hE' : Env ae W) (hv : FdL W.heap.size W Y.l lv) => Encode_any ae Y _ W lv (Nat.le_refl _) hE' hv
  simp only [hr, if_true] at hEn
  simp only [hq, if_true] at hEm
  rw [← bs_size] at hlen hleny
  have j1 : ¬ 9223372036854775807 < min (min (sa.size : Int) 100).toNat sa.size + (bs (encC V)).size := by omega
  have j2 : ¬ 9223372036854775807 < min (min (sa.size : Int) 100).toNat sa.size + (bs (encC V)).size + min (min (sb.size : Int) 100).toNat sb.size := by omega
  have hd : decC (sa.extract 0 (min (sa.size : Int) 100).toNat ++ bs (encC V) ++ sb.extract 0 (min (sb.size : Int) 100).toNat) ((min (min (sa.size : Int) 100).toNat sa.size : Nat) : Int) = some (V, ((min (min (sa.size : Int) 100).toNat sa.size : Nat) : Int) + ((bs (encC V)).size : Int)) := by
    rw [bs_size (encC V)]
    have h := decC_full (sa.data.toList.take (min (sa.size : Int) 100).toNat) (sb.data.toList.take (min (sb.size : Int) 100).toNat) V hr
    rw [List.length_take, data_len] at h
    rw [← h, ← bs_append, ← bs_append, ← take_bs, ← take_bs, bs_data, bs_data, ByteArray.append_assoc]
  have hsb := same_bytes hr hq
  have hds : (sa.extract 0 (min (sa.size : Int) 100).toNat ++ bs (encC V) ++ sb.extract 0 (min (sb.size : Int) 100).toNat).size ≤ 140737488351232 := by
    rw [add_size, add_size, ext_size, ext_size]; omega
  have hpos : 0 < (bs (encC V)).size := by rw [bs_size]; exact List.length_pos_iff.2 (encC_ne V)
  have hK : c.toNat % (bs (encC V)).size < (bs (encC V)).size := Nat.mod_lt _ hpos
  have hcut : decC ((bs (encC V)).extract 0 (c.toNat % (bs (encC V)).size)) 0 = none := by rw [take_bs]; exact decC_cut hr _ (by rw [bs_size] at hK ⊢; exact hK)
  have hcs : ((bs (encC V)).extract 0 (c.toNat % (bs (encC V)).size)).size ≤ 140737488351232 := by rw [ext_size]; omega
  generalize bs (encC V) = P at *
  generalize bs (encC Y) = Q at *
  have HD := Lib.hid (And.intro hd (And.intro hsb hds))
  have HCut := Lib.hid (And.intro hcut hcs)
  have HE := Lib.hid (fun W (h : Below w.heap.size w W) => hE.below h)
  have HOf := Lib.hid hOf
  have HOg := Lib.hid hOg
  have HEn := Lib.hid hEn
  have HEm := Lib.hid hEm
  have HVV := Lib.hid (show sameC V V = true from sameC_iff.2 rfl)
  have i0 : ((P.size : Int) == 0) = false := beq_eq_false_iff_ne.2 (by omega)
  have hc8 := c.toNat_lt
  obtain ⟨xa, xc, rfl, -⟩ := hl.len
  obtain ⟨ya, yc, rfl, -⟩ := hm.len
  have J0 := Lib.hid (BkJ.begins w x y (.slice xa x.l.length xc) (.slice ya y.l.length yc))
  clear hE hOf hOg hl hm hx hy hr hq hEn hEm hd hsb hds hcut hcs
  go_enter Tryd.func5, Tryd.ntmps5
  go_wp2_with fail
  refine (examples_any ae _ (HE.out _ J0.out.below)).mono ?_
  rintro e W1 ⟨rfl, hB⟩
  have J1 := Lib.hid (J0.out.later hB)
  have p1 := J1.out.x0
  have p2 := J1.out.x1
  clear hB J0
  go_wp2_with fail
  refine (HOf.out _ J1.out.below).mono ?_
  rintro e W2 ⟨⟨lv, rfl, hlv, -⟩, hB⟩
  obtain ⟨va, vc, rfl, -⟩ := hlv.len
  have A2 := Lib.hid (BxC.new W2 V _ hlv)
  have J2 := Lib.hid ((J1.out.later hB).later (Kit.below_alloc W2 (.cells #[.string V.nm, .slice va V.l.length vc] 39)))
  have p1 := J2.out.y0
  have p2 := J2.out.y1
  clear hB hlv J1
  go_wp2_with fail
  refine (HOg.out _ J2.out.below).mono ?_
  rintro e W3 ⟨⟨lv, rfl, hlv, -⟩, hB⟩
  obtain ⟨ya2, yc2, rfl, -⟩ := hlv.len
  have D3 := Lib.hid (BxC.new W3 Y _ hlv)
  have A3 := Lib.hid ((A2.out.later hB).later (Kit.below_alloc W3 (.cells #[.string Y.nm, .slice ya2 Y.l.length yc2] 39)))
  have J3 := Lib.hid ((J2.out.later hB).later (Kit.below_alloc W3 (.cells #[.string Y.nm, .slice ya2 Y.l.length yc2] 39)))
  clear hB hlv J2 A2 p1 p2
  obtain ⟨p1, p2⟩ := A3.out.1
  go_wp2_with fail
  refine (HEn.out _ _ (HE.out _ J3.out.below) A3.out.2).mono ?_
  rintro e W4 ⟨rfl, hB⟩
  have A4 := Lib.hid (A3.out.later hB)
  have D4 := Lib.hid (D3.out.later hB)
  have J4 := Lib.hid (J3.out.later hB)
  clear hB J3 A3 D3 p1 p2
  obtain ⟨p1, p2⟩ := D4.out.1
  go_wp2_with fail
  refine (HEm.out _ _ (HE.out _ J4.out.below) D4.out.2).mono ?_
  rintro e W5 ⟨rfl, hB⟩
  have A5 := Lib.hid (A4.out.later hB)
  have D5 := Lib.hid (D4.out.later hB)
  have J5 := Lib.hid (J4.out.later hB)
  clear hB J4 A4 D4 p1 p2
  go_wp2_with fail
  refine (Decode_any ae _ HD.out.2.2 _ (by omega) (by omega) _ (HE.out _ J5.out.below)).mono ?_
  rintro e W6 ⟨hp, hB⟩
  rw [HD.out.1] at hp
  obtain ⟨lv, rfl, hlv⟩ := hp
  obtain ⟨ua, uc, rfl, -⟩ := hlv.len
  have F6 := Lib.hid (BxC.new W6 V _ hlv)
  have A6 := Lib.hid ((A5.out.later hB).later (Kit.below_alloc W6 (.cells #[.string V.nm, .slice ua V.l.length uc] 39)))
  have D6 := Lib.hid ((D5.out.later hB).later (Kit.below_alloc W6 (.cells #[.string V.nm, .slice ua V.l.length uc] 39)))
  have J6 := Lib.hid ((J5.out.later hB).later (Kit.below_alloc W6 (.cells #[.string V.nm, .slice ua V.l.length uc] 39)))
  clear hB hlv J5 A5 D5
  obtain ⟨p1, p2⟩ := A6.out.1
  obtain ⟨q1, q2⟩ := F6.out.1
  go_wp2_with fail
  refine (same_cl V V _ _ _ _ (Nat.le_refl _) (by rw [World.size_alloc]; exact (F6.out.2).mono (by simp)) A6.out.2).mono ?_
  rintro e W7 ⟨rfl, hB⟩
  rw [HVV.out]
  have A7 := Lib.hid (A6.out.later hB)
  have D7 := Lib.hid (D6.out.later hB)
  have J7 := Lib.hid (J6.out.later hB)
  clear hB J6 A6 D6 F6 p1 p2 q1 q2
  go_wp2_with fail
  refine (Decode_any ae _ HCut.out.2 _ (by decide) (by decide) _ (HE.out _ J7.out.below)).mono ?_
  rintro e W8 ⟨hp, hB⟩
  rw [HCut.out.1] at hp
  obtain rfl : e = _ := hp
  have A8 := Lib.hid ((A7.out.later hB).later (Kit.below_alloc W8 (.cells #[.string ⟨#[]⟩, .slice none 0 0] 39)))
  have D8 := Lib.hid ((D7.out.later hB).later (Kit.below_alloc W8 (.cells #[.string ⟨#[]⟩, .slice none 0 0] 39)))
  have J8 := Lib.hid ((J7.out.later hB).later (Kit.below_alloc W8 (.cells #[.string ⟨#[]⟩, .slice none 0 0] 39)))
  clear hB J7 A7 D7
  obtain ⟨p1, p2⟩ := A8.out.1
  obtain ⟨q1, q2⟩ := D8.out.1
  go_wp2_with fail
  refine (same_cl V Y _ _ _ _ (Nat.le_refl _) A8.out.2 D8.out.2).mono ?_
  rintro e W9 ⟨rfl, hB⟩
  rw [← HD.out.2.1]
  have J9 := Lib.hid (J8.out.later hB)
  clear hB J8 A8 D8 p1 p2 q1 q2
  go_wp2
  go_ret
  exact ⟨ret_bool (by simp), J9.out.below⟩
theorem back4_row {w : World} (x : Raw4) (hx : x.Ok) (xlv : Value) (hl : FRawL w x.l xlv) (y : Raw4) (hy : y.Ok) (ylv : Value) (hm : FRawL w y.l ylv) (sa : ByteArray) (ha : sa.size ≤ 140737488351232) (sb : ByteArray) (hb : sb.size ≤ 140737488351232) (c : UInt8) (ae : Addr) (hE : Env ae w) :
    Calls Tryd.prog 5 #[.agg #[.int .i64 x.n, xlv], .agg #[.int .i64 y.n, ylv], .string sa, .string sb, .int .u8 (c.toNat : Int)] w fun e w' => e = .returned (.bool true) ∧ Below w.heap.size w w' := back4_any ae x y hx hy sa sb ha hb c w xlv ylv hl hm hE
end Go.Proofs.YtlcmphoamoiemaaDoor.Cls
