/- Layer 3's laws: ValKinds. -/
import Derived.Test.YtlcmphoamoiemaaDoorLaw3Awake
import Derived.Test.YtlcmphoamoiemaaDoorValDecFull
namespace Go.Proofs.YtlcmphoamoiemaaDoor.Val
open Go.RowKit
open Kit (ret_int ret_bool Moved)
open Wire (numB bytesAt)

attribute [local go_sem] Oper.semAt_some

theorem encV_head (x : Vl) : ∃ t, encV x = numB x.k ++ t ∧ ((x.k = 1 ∨ x.k = 3 ∨ x.k = 4) → t = numB x.n) := by
  unfold encV
  split
  · rename_i h
    exact ⟨numB (x.l.length : Int) ++ x.l.flatMap encF, by rw [List.append_assoc], by omega⟩
  · unfold encF
    split
    · exact ⟨_, rfl, fun _ => rfl⟩
    · rename_i h1
      split
      · exact ⟨_, rfl, fun h => absurd h h1⟩
      · exact ⟨[], by simp, fun h => absurd h h1⟩
theorem num_at0 {n : Int} (h1 : -9223372036854775808 ≤ n) (h2 : n ≤ 9223372036854775807) (t : List UInt8) : Wire.readNumV (bs (numB n ++ t)) 0 = .tuple #[.int .i64 n, .int .i64 ((numB n).length : Int), .int .i64 0] := by
  unfold Wire.readNumV
  rw [bytesAt_0, bs_list, Wire.readN_numB n h1 h2]
  simp
theorem num_at {n : Int} (h1 : -9223372036854775808 ≤ n) (h2 : n ≤ 9223372036854775807) (a : List UInt8) : Wire.readNumV (bs (a ++ numB n)) (a.length : Int) = .tuple #[.int .i64 n, .int .i64 ((a.length : Int) + ((numB n).length : Int)), .int .i64 0] := by
  unfold Wire.readNumV
  rw [bytesAt_at]
  have h := Wire.readN_numB n h1 h2 []
  rw [List.append_nil] at h
  rw [h]

set_option maxRecDepth 100000 in
set_option maxHeartbeats 8000000 in
theorem kinds_any (ae : Addr) (x : Raw) (hx : x.Ok) (w : World) (xlv : Value) (hl : RawL w x.l xlv) (hE : Env ae w) :
    Calls Tryd.prog 8 #[.agg #[.int .i64 x.k, .int .i64 x.n, .string x.s, xlv]] w fun e w' => e = .returned (.bool true) ∧ Below w.heap.size w w' := by
  have hr := valOf_right x
  have hOf := fun W (h : Below w.heap.size w W) => ValOf_any x hx W xlv (hl.below h)
  unfold OfPost at hOf
  generalize valOf x = V at *
  have hlen := encV_len hr
  have hi := (rightV_enc hr).1
  have hfit := (rightV_enc hr).fits
  have hEn := fun (W : World) (v : Value) (hE' : Env ae W) (hv : Rep W.heap.size W V v) => Encode_any ae V hfit _ W v (Nat.le_refl _) hE' hv
  simp only [hr, if_true] at hEn
  obtain ⟨t, ht, hn⟩ := encV_head V
  have h0 := num_at0 hi.1 hi.2.1 t
  rw [← ht] at h0
  have h1 := fun h : V.k = 1 ∨ V.k = 3 ∨ V.k = 4 => num_at hi.2.2.1 hi.2.2.2 (numB V.k)
  have hsz := fun h : V.k = 1 ∨ V.k = 3 ∨ V.k = 4 => (show ((bs (encV V)).size : Int) = ((numB V.k).length : Int) + ((numB V.n).length : Int) by rw [bs_size, ht, hn h]; simp)
  have h2 : (V.k = 1 ∨ V.k = 3 ∨ V.k = 4) → Wire.readNumV (bs (encV V)) ((numB V.k).length : Int) = .tuple #[.int .i64 V.n, .int .i64 ((bs (encV V)).size : Int), .int .i64 0] := fun h => by rw [hsz h, ← h1 h, ht, hn h]
  have hl1 : ((numB V.k).length : Int) ≤ 200000 := by have h3 := congrArg List.length ht; rw [List.length_append] at h3; omega
  have hps : (bs (encV V)).size ≤ 140737488351232 := by rw [bs_size]; omega
  clear ht hn h1 hsz hlen hi
  generalize hP : bs (encV V) = P at *
  generalize hM : ((numB V.k).length : Int) = M at *
  have hM0 : 0 ≤ M := by omega
  have HE := Lib.hid (fun W (h : Below w.heap.size w W) => hE.below h)
  have HOf := Lib.hid hOf
  have HEn := Lib.hid hEn
  have H := Lib.hid (And.intro h0 (And.intro h2 (And.intro hps (And.intro hM0 hl1))))
  obtain ⟨xa, xc, rfl, -⟩ := hl.len
  have B0 := Lib.hid (up (Below.refl w.heap.size w) (.cells #[.int .i64 x.k, .int .i64 x.n, .string x.s, .slice xa x.l.length xc] 24))
  have A0 := Lib.hid (Kit.box4_new w (.int .i64 x.k) (.int .i64 x.n) (.string x.s) (.slice xa x.l.length xc) 24)
  clear hE hOf hl hx hr hfit hEn hP hM h0 h2 hps hM0 hl1
  go_enter Tryd.func8, Tryd.ntmps8
  go_wp2_with fail
  refine (awake3_any ae _ (HE.out _ B0.out)).mono ?_
  rintro e W1 ⟨rfl, hB⟩
  have B1 := Lib.hid (next B0.out hB)
  obtain ⟨p1, p2, p3, p4⟩ := A0.out.below hB A0.out.lt
  clear hB B0 A0
  go_wp2_with fail
  refine (HOf.out _ B1.out).mono ?_
  rintro e W2 ⟨⟨lv, rfl, hlv, -⟩, hB⟩
  have B2 := Lib.hid (next B1.out hB)
  obtain ⟨va, vc, rfl, -⟩ := hlv.len
  have A2 := Lib.hid (Bx.new W2 V _ hlv)
  clear hB hlv B1 p1 p2 p3 p4
  go_wp2_with fail
  refine (HEn.out _ _ (HE.out _ (up B2.out _)) A2.out.rep).mono ?_
  rintro e W3 ⟨rfl, hB⟩
  have B3 := Lib.hid (next (up B2.out _) hB)
  have A3 := Lib.hid (A2.out.later hB)
  clear hB B2 A2
  go_wp2_with fail
  have E3 := HE.out _ B3.out
  refine (Wire.readNum_any P H.out.2.2.1 0 (by decide) (by decide) ae _ E3.lt E3.err).mono ?_
  rintro e W4 ⟨rfl, hB⟩
  rw [H.out.1]
  have B4 := Lib.hid (next B3.out hB)
  obtain ⟨q1, q2, q3, q4⟩ := (A3.out.later hB).1
  clear hB B3 A3 E3
  by_cases hk : V.k = 1 ∨ V.k = 3 ∨ V.k = 4
  · have H2 := Lib.hid (H.out.2.1 hk)
    have hk2 : (V.k != 1) = false ∨ (V.k != 1) = true ∧ (V.k != 3) = false ∨ (V.k != 1) = true ∧ (V.k != 3) = true ∧ (V.k != 4) = false := by
      rcases hk with h | h | h <;> simp [h]
    clear hk
    rcases hk2 with k1 | ⟨k1, k3⟩ | ⟨k1, k3, k4⟩
    all_goals
      go_wp2_with fail
      have E4 := HE.out _ B4.out
      refine (Wire.readNum_any P H.out.2.2.1 M (by have := H.out.2.2.2; omega) (by have := H.out.2.2.2; omega) ae _ E4.lt E4.err).mono ?_
      rintro e W5 ⟨rfl, hB⟩
      rw [H2.out]
      have B5 := Lib.hid (next B4.out hB)
      have q2' := (hB.cell (p := ⟨W2.heap.size, 1, none⟩) (Kit.lt_of_cell q2)).trans q2
      clear hB B4 E4 q1 q2 q3 q4
      go_wp2_with fail
      go_ret
      exact ⟨ret_bool rfl, B5.out⟩
  · have k1 : (V.k != 1) = true := by simp; omega
    have k3 : (V.k != 3) = true := by simp; omega
    have k4 : (V.k != 4) = true := by simp; omega
    clear hk
    go_wp2_with fail
    go_ret
    exact ⟨ret_bool rfl, B4.out⟩
theorem kinds_row {w : World} (x : Raw) (hx : x.Ok) (xlv : Value) (hl : RawL w x.l xlv) (ae : Addr) (hE : Env ae w) :
    Calls Tryd.prog 8 #[.agg #[.int .i64 x.k, .int .i64 x.n, .string x.s, xlv]] w fun e w' => e = .returned (.bool true) ∧ Below w.heap.size w w' := kinds_any ae x hx w xlv hl hE
end Go.Proofs.YtlcmphoamoiemaaDoor.Val
