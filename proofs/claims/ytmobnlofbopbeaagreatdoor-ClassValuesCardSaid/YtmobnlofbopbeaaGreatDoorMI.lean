/- Layer 4: Encode. -/
import Derived.Test.YtmobnlofbopbeaaGreatDoorMG
import Derived.Test.YtmobnlofbopbeaaGreatDoorValBs
import Derived.Deep.RegionHeld3
import Derived.Deep.RegionLaw
import Derived.Test.YtmobnlofbopbeaaGreatDoorMH
import Derived.Test.YtmobnlofbopbeaaGreatDoorLaw4
namespace Go.Proofs.YtmobnlofbopbeaaGreatDoor.Cls
open Go.RowKit
open Kit (ret_int ret_bool Moved)
open Val (Env flat bs bs_size Vl Rep RepL add_bs)
open Wire (numB)

attribute [local go_sem] Oper.semAt_some

/-- The bytes of a name, of a field, of a class. -/
def nmB (s : ByteArray) : List UInt8 := numB (s.size : Int) ++ s.data.toList
def ixN (b : Bool) : Int := if b then 1 else 0
def encFd (f : Fd) : List UInt8 := nmB f.nm ++ (numB f.k ++ (numB f.o ++ numB (ixN f.ix)))
def encC (c : Cl) : List UInt8 := nmB c.nm ++ (numB (c.l.length : Int) ++ c.l.flatMap encFd)
theorem nmB_len {s : ByteArray} (h : s.size ≤ 10000) : (nmB s).length ≤ 10010 := by
  have h1 := Wire.numB_len (s.size : Int)
  have h2 := Val.data_len s
  unfold nmB
  rw [List.length_append]; omega
theorem encFd_len {f : Fd} (h : f.nm.size ≤ 10000) : (encFd f).length ≤ 10040 := by
  have h1 := nmB_len h
  have h2 := Wire.numB_len f.k
  have h3 := Wire.numB_len f.o
  have h4 := Wire.numB_len (ixN f.ix)
  unfold encFd
  rw [List.length_append, List.length_append, List.length_append]; omega
theorem encFds_len : ∀ l : List Fd, (∀ f ∈ l, f.nm.size ≤ 10000) → (l.flatMap encFd).length ≤ l.length * 10040
  | [], _ => by simp
  | f :: r, h => by
    have h1 := encFd_len (h f (by simp))
    have h2 := encFds_len r (fun g hg => h g (by simp [hg]))
    rw [List.flatMap_cons, List.length_append, List.length_cons]; omega

theorem rightTy_range {K O : Int} (h : Val.rightTy K O = true) : 1 ≤ K ∧ K ≤ 5 ∧ 0 ≤ O ∧ O ≤ 4 := by
  unfold Val.rightTy Val.inK at h
  split at h
  · simp at h; omega
  · simp at h; omega
theorem rightNm_size {s : ByteArray} (h : rightNm s = true) : s.size ≤ 20 := by
  unfold rightNm at h
  simp only [Bool.and_eq_true, decide_eq_true_eq] at h
  exact h.2.1
theorem clsR_facts {c : Cl} (h : clsR c = true) : rightNm c.nm = true ∧ c.l.length ≤ 8 ∧ ∀ (i : Nat) (f : Fd), c.l[i]? = some f → fieldAt c.l f.nm = (i : Int) ∧ fieldR f = true := by
  unfold clsR at h
  simp only [Bool.and_eq_true, decide_eq_true_eq] at h
  refine ⟨h.1, h.2.1, fun i f hf => ?_⟩
  have := (allOk_iff c.l c.l 0).1 h.2.2 i f hf
  rw [Nat.zero_add] at this
  unfold okAt at this
  simpa using this
theorem fieldR_facts {f : Fd} (h : fieldR f = true) : f.nm.size ≤ 20 ∧ 1 ≤ f.k ∧ f.k ≤ 5 ∧ 0 ≤ f.o ∧ f.o ≤ 4 := by
  unfold fieldR at h
  simp only [Bool.and_eq_true] at h
  exact ⟨rightNm_size h.1, rightTy_range h.2.1⟩

set_option maxRecDepth 100000 in
theorem nameBytes_any (s : ByteArray) (hs : s.size ≤ 10000) (w : World) :
    Calls Tryz.prog 111 #[.string s] w fun e w' => e = .returned (.string (bs (nmB s))) ∧ Below w.heap.size w w' := by
  have HT := Lib.hid (Wire.text_any s (by omega) w)
  rw [if_pos hs, Val.textB_bs] at HT
  unfold nmB
  go_enter Tryz.func111, Tryz.ntmps111
  go_wp2_with fail
  refine HT.out.mono ?_; rintro e w1 ⟨rfl, hB⟩
  go_wp2
  go_ret
  exact ⟨rfl, hB⟩

set_option maxRecDepth 100000 in
set_option maxHeartbeats 2000000 in
theorem fieldBytes_any (f : Fd) (hs : f.nm.size ≤ 10000) (k1 : -9223372036854775808 ≤ f.k) (k2 : f.k ≤ 9223372036854775807) (o1 : -9223372036854775808 ≤ f.o) (o2 : f.o ≤ 9223372036854775807) (w : World) :
    Calls Tryz.prog 112 #[aggFd f] w fun e w' => e = .returned (.string (bs (encFd f))) ∧ Below w.heap.size w w' := by
  obtain ⟨nm, k, o, ix⟩ := f
  simp only at hs k1 k2 o1 o2
  have HN := Lib.hid (fun W => nameBytes_any nm hs W)
  have HK := Lib.hid (fun W => Wire.num_any k k1 k2 W)
  have HO := Lib.hid (fun W => Wire.num_any o o1 o2 W)
  have h1 := nmB_len hs
  have h2 := Wire.numB_len k
  have h3 := Wire.numB_len o
  have h4 := Wire.numB_len (ixN ix)
  have a1 := add_bs (P := Tryz.prog) (nmB nm) (numB k) (by omega)
  have a2 := add_bs (P := Tryz.prog) (nmB nm ++ numB k) (numB o) (by rw [List.length_append]; omega)
  have a3 := add_bs (P := Tryz.prog) (nmB nm ++ (numB k ++ numB o)) (numB (ixN ix)) (by rw [List.length_append, List.length_append]; omega)
  rw [List.append_assoc] at a2
  rw [List.append_assoc, List.append_assoc] at a3
  unfold encFd
  simp only
  clear h1 h2 h3 h4 hs k1 k2 o1 o2
  have B0 := Lib.hid ((Kit.below_alloc w (.cells #[.string nm, .int .i64 k, .int .i64 o, .bool ix] 94)).drew)
  have P0 := Kit.box4_new w (.string nm) (.int .i64 k) (.int .i64 o) (.bool ix) 94
  have HX := Lib.hid (fun W => Wire.num_any (ixN ix) (by unfold ixN; split <;> decide) (by unfold ixN; split <;> decide) W)
  generalize nmB nm = NB at *
  generalize numB k = NK at *
  generalize numB o = NO at *
  cases ix
  case' false => rw [show ixN false = 0 from rfl] at HX a3 ⊢; generalize numB 0 = NX at *
  case' true => rw [show ixN true = 1 from rfl] at HX a3 ⊢; generalize numB 1 = NX at *
  all_goals
    go_enter Tryz.func112, Tryz.ntmps112
    go_upto_region 4 with fail
    obtain ⟨p0, p1, p2, p3⟩ := P0
    have hp := Kit.lt_of_cell p0
    clear p3
    first | generalize w.alloc (.cells #[.string nm, .int .i64 k, .int .i64 o, .bool false] 94) = W0 at * | generalize w.alloc (.cells #[.string nm, .int .i64 k, .int .i64 o, .bool true] 94) = W0 at *
    have P0 := Lib.hid (And.intro p0 (And.intro p1 p2))
    go_region_law (first
        | (go_simp; go_at_call 111; refine (HN.out _).mono ?_; rintro e w1 ⟨rfl, hB⟩; have P1 := Lib.hid (And.intro ((hB.cell (p := ⟨w.heap.size, 0, none⟩) (Kit.lt_of_cell P0.out.1)).trans P0.out.1) (And.intro ((hB.cell (p := ⟨w.heap.size, 1, none⟩) (Kit.lt_of_cell P0.out.2.1)).trans P0.out.2.1) ((hB.cell (p := ⟨w.heap.size, 2, none⟩) (Kit.lt_of_cell P0.out.2.2)).trans P0.out.2.2))); have B1 := Lib.hid (B0.out.trans (hB.mono B0.out.size)); clear hB p0 p1 p2 P0 HN B0; obtain ⟨p0, p1, p2⟩ := P1.out)
        | (go_simp; go_at_call 76; refine (HK.out _).mono ?_; rintro e w2 ⟨rfl, hB⟩; have P2 := Lib.hid (And.intro ((hB.cell (p := ⟨w.heap.size, 0, none⟩) (Kit.lt_of_cell P1.out.1)).trans P1.out.1) (And.intro ((hB.cell (p := ⟨w.heap.size, 1, none⟩) (Kit.lt_of_cell P1.out.2.1)).trans P1.out.2.1) ((hB.cell (p := ⟨w.heap.size, 2, none⟩) (Kit.lt_of_cell P1.out.2.2)).trans P1.out.2.2))); have B2 := Lib.hid (B1.out.trans (hB.mono B1.out.size)); clear hB p0 p1 p2 P1 HK B1; obtain ⟨p0, p1, p2⟩ := P2.out)
        | (go_simp; go_at_call 76; refine (HO.out _).mono ?_; rintro e w3 ⟨rfl, hB⟩; have P3 := Lib.hid (And.intro ((hB.cell (p := ⟨w.heap.size, 0, none⟩) (Kit.lt_of_cell P2.out.1)).trans P2.out.1) (And.intro ((hB.cell (p := ⟨w.heap.size, 1, none⟩) (Kit.lt_of_cell P2.out.2.1)).trans P2.out.2.1) ((hB.cell (p := ⟨w.heap.size, 2, none⟩) (Kit.lt_of_cell P2.out.2.2)).trans P2.out.2.2))); have B3 := Lib.hid (B2.out.trans (hB.mono B2.out.size)); clear hB p0 p1 p2 P2 HO B2; obtain ⟨p0, p1, p2⟩ := P3.out)
        | (go_simp; go_at_call 76; refine (HX.out _).mono ?_; rintro e w4 ⟨rfl, hB⟩; have B4 := Lib.hid (B3.out.trans (hB.mono B3.out.size)); clear hB p0 p1 p2 P3 HX B3))
    all_goals
      go_wp2
      go_ret
      exact ⟨rfl, B4.out⟩
end Go.Proofs.YtmobnlofbopbeaaGreatDoor.Cls
/- Layer 4: Encode, of any class. -/
namespace Go.Proofs.YtmobnlofbopbeaaGreatDoor.Cls
open Go.RowKit
open Kit (ret_int ret_bool Moved)
open Val (Env flat bs bs_size Vl Rep RepL add_bs)
open Wire (numB)

attribute [local go_sem] Oper.semAt_some

theorem take_fields (l : List Fd) (k : Nat) (x : Fd) (hx : l[k]? = some x) : (l.take (k + 1)).flatMap encFd = (l.take k).flatMap encFd ++ encFd x := by
  have h : l.take (k + 1) = l.take k ++ [x] := by
    rw [List.take_add_one, hx]; rfl
  rw [h, List.flatMap_append]; simp

set_option maxRecDepth 100000 in
set_option maxHeartbeats 4000000 in
/-- Encode. -/
theorem Encode_any (ae : Addr) (c : Cl) (B : Nat) (w : World) (lv : Value) (hB : B ≤ w.heap.size) (hE : Env ae w) (hr : FdL B w c.l lv) :
    Calls Tryz.prog 65 #[.agg #[.string c.nm, lv]] w fun e w' => e = .returned (if clsR c then .tuple #[.string (bs (encC c)), .int .i64 0] else .tuple #[.string ⟨#[]⟩, .int .i64 40]) ∧ Below w.heap.size w w' := by
  obtain ⟨a1, c1, rfl, z1⟩ := hr.len
  unfold maxLen at z1
  have B0 := Lib.hid (Kit.below_alloc w (.cells #[.string c.nm, .slice a1 c.l.length c1] 56))
  have P0 := Lib.hid (And.intro (Kit.cell_new w #[.string c.nm, .slice a1 c.l.length c1] 56 0 rfl) (Kit.cell_new w #[.string c.nm, .slice a1 c.l.length c1] 56 1 rfl))
  have HR := Lib.hid (right_cl ae c B _ _ (by have := B0.out.size; omega) (hE.below B0.out) (hr.below B0.out hB))
  have HE := Lib.hid (And.intro hr hB)
  clear hE hr
  cases h1 : clsR c
  · rw [if_neg (by simp)]
    go_enter Tryz.func65, Tryz.ntmps65
    go_wp2_with fail
    refine HR.out.mono ?_; rintro e w1 ⟨rfl, hB1⟩
    rw [h1]
    go_wp2
    go_ret2
    exact ⟨rfl, B0.out.trans (hB1.mono B0.out.size)⟩
  · rw [if_pos rfl]
    obtain ⟨hn, h8, hfs⟩ := clsR_facts h1
    have hns := rightNm_size hn
    have hfz : ∀ f ∈ c.l, f.nm.size ≤ 10000 := fun f hf => by
      obtain ⟨i, hi, rfl⟩ := List.getElem_of_mem hf
      have := (fieldR_facts (hfs i _ (List.getElem?_eq_getElem hi)).2).1
      omega
    have HF := Lib.hid (fun (i : Nat) (f : Fd) (hf : c.l[i]? = some f) W => fieldBytes_any f (by have := (fieldR_facts (hfs i f hf).2).1; omega) (by have := fieldR_facts (hfs i f hf).2; omega) (by have := fieldR_facts (hfs i f hf).2; omega) (by have := fieldR_facts (hfs i f hf).2; omega) (by have := fieldR_facts (hfs i f hf).2; omega) W)
    have HN := Lib.hid (fun W => nameBytes_any c.nm (by omega) W)
    have HM := Lib.hid (fun W => Wire.num_any (c.l.length : Int) (by omega) (by omega) W)
    have l1 := nmB_len (s := c.nm) (by omega)
    have l2 := Wire.numB_len (c.l.length : Int)
    have a1' := add_bs (P := Tryz.prog) (nmB c.nm) (numB (c.l.length : Int)) (by omega)
    have HZ := Lib.hid hfz
    unfold encC
    rw [← List.append_assoc]
    have hl0 : (nmB c.nm ++ numB (c.l.length : Int)).length ≤ 11000 := by rw [List.length_append]; omega
    generalize nmB c.nm = NB at *
    generalize numB (c.l.length : Int) = NL at *
    clear hn hns hfs hfz l1 l2
    go_enter Tryz.func65, Tryz.ntmps65
    go_wp2_with fail
    refine HR.out.mono ?_; rintro e w1 ⟨rfl, hB1⟩
    rw [h1]
    have B1 := Lib.hid ((B0.out.trans (hB1.mono B0.out.size)).drew)
    have P1 := Lib.hid (And.intro ((hB1.cell (p := ⟨w.heap.size, 0, none⟩) (Kit.lt_of_cell P0.out.1)).trans P0.out.1) ((hB1.cell (p := ⟨w.heap.size, 1, none⟩) (Kit.lt_of_cell P0.out.2)).trans P0.out.2))
    obtain ⟨p0, p1⟩ := P1.out
    clear hB1 HR B0 P0 h1
    go_upto_region 3 with fail
    go_cut [4] from 10 (fun v wx => v = .string (bs (NB ++ NL)) ∧ Below w.heap.size w wx ∧ wx.cell? ⟨w.heap.size, 0, none⟩ = some (.string c.nm) ∧ wx.cell? ⟨w.heap.size, 1, none⟩ = some (.slice a1 c.l.length c1))
    case first =>
      go_region_law (first
          | (go_simp; go_at_call 111; refine (HN.out _).mono ?_; rintro e w2 ⟨rfl, hB⟩; have P2 := Lib.hid (And.intro ((hB.cell (p := ⟨w.heap.size, 0, none⟩) (Kit.lt_of_cell P1.out.1)).trans P1.out.1) ((hB.cell (p := ⟨w.heap.size, 1, none⟩) (Kit.lt_of_cell P1.out.2)).trans P1.out.2)); have B2 := Lib.hid (B1.out.trans (hB.mono B1.out.size)); clear hB p0 p1 P1 HN B1; obtain ⟨p0, p1⟩ := P2.out)
          | (go_simp; go_at_call 76; refine (HM.out _).mono ?_; rintro e w3 ⟨rfl, hB⟩; have P3 := Lib.hid (And.intro ((hB.cell (p := ⟨w.heap.size, 0, none⟩) (Kit.lt_of_cell P2.out.1)).trans P2.out.1) ((hB.cell (p := ⟨w.heap.size, 1, none⟩) (Kit.lt_of_cell P2.out.2)).trans P2.out.2)); have B3 := Lib.hid (B2.out.trans (hB.mono B2.out.size)); clear hB p0 p1 P2 HM B2; obtain ⟨p0, p1⟩ := P3.out))
      all_goals
        go_wp2
        go_meet
        exact ⟨rfl, B3.out, P3.out.1, P3.out.2⟩
    case rest =>
    obtain ⟨rfl, hBc, p0, p1⟩ := hcut
    have BC := Lib.hid hBc
    have PC := Lib.hid (And.intro p0 p1)
    clear hBc P1 B1 HN HM a1'
    generalize hH : NB ++ NL = H0 at *
    have HH := Lib.hid hH
    clear hH
    go_wp2
    go_loopw [4, 6, 21] (fun s _ j wr => ∃ k : Nat, k ≤ c.l.length ∧ j = .int .i64 k ∧ s = .string (bs (H0 ++ (c.l.take k).flatMap encFd)) ∧ Below w.heap.size w wr) (fun _ _ j _ => c.l.length - (intOf j).toNat)
    case atStart => exact ⟨0, by omega, rfl, by simp, BC.out⟩
    case round =>
      obtain ⟨k, hk, rfl, rfl, hBw⟩ := hrel
      have hsz := hBw.size
      by_cases hlt : k < c.l.length
      · obtain ⟨x, hx⟩ : ∃ x, c.l[k]? = some x := ⟨_, List.getElem?_eq_getElem (by omega)⟩
        obtain ⟨b1, o1, d1, e1, hb1, q0, q1, q2, q3⟩ := (HE.out.1.below hBw HE.out.2).at hx
        cases e1
        have HX := Lib.hid (HF.out k x hx (wr.alloc (.cells #[.string x.nm, .int .i64 x.k, .int .i64 x.o, .bool x.ix] 94)))
        have hadd := add_bs (P := Tryz.prog) (H0 ++ (c.l.take k).flatMap encFd) (encFd x) (by
          have h1 := encFd_len (HZ.out x (List.mem_of_getElem? hx))
          have h2 := encFds_len (c.l.take k) (fun f hf => HZ.out f (List.mem_of_mem_take hf))
          rw [List.length_take] at h2
          rw [List.length_append]; omega)
        have HT := Lib.hid (take_fields c.l k x hx)
        have i1 : (0 : Int) ≤ (k : Int) := by omega
        have i2 : (k : Int) < (c.l.length : Int) := by omega
        clear hx p0 p1
        go_wp2_with fail
        refine HX.out.mono ?_; rintro e w3 ⟨rfl, hB5⟩
        have BX := Lib.hid (hBw.trans (((Kit.below_alloc wr (.cells #[.string x.nm, .int .i64 x.k, .int .i64 x.o, .bool x.ix] 94)).mono hsz).trans (hB5.mono (by simp; omega))))
        clear hB5
        go_wp2
        go_roundw
        case rel =>
          refine ⟨k + 1, by omega, by go_num, ?_, BX.out⟩
          rw [HT.out]
        case measure => simp [intOf]; omega
      · have hkl : k = c.l.length := by omega
        subst hkl
        rw [List.take_length]
        go_wp2
        go_ret2
        exact ⟨by simp [← HH.out], hBw⟩
end Go.Proofs.YtmobnlofbopbeaaGreatDoor.Cls
/- Layer 4: Decode undoes Encode: plain mathematics. -/
namespace Go.Proofs.YtmobnlofbopbeaaGreatDoor.Cls
open Val (bs bs_size bs_list bs_data bs_append data_len)
open Wire (numB readN readT bytesAt)

theorem scan_more : ∀ (l t : List UInt8) (st : Nat × Nat) (r : Nat × Nat), Wire.scan l st = some r → Wire.scan (l ++ t) st = some r
  | [], _, _, _, h => by simp [Wire.scan] at h
  | b :: l, t, st, r, h => by
    rw [List.cons_append]
    unfold Wire.scan at h ⊢
    cases hs : Wire.stepN st (some b) with
    | inr o => rw [hs] at h; exact h
    | inl s1 => rw [hs] at h; exact scan_more l t s1 r h
theorem readN_more {l : List UInt8} {r : Int × Nat} (h : readN l = some r) (t : List UInt8) : readN (l ++ t) = some r := by
  unfold Wire.readN at h ⊢
  cases hs : Wire.scan l (0, 0) with
  | none => rw [hs] at h; cases h
  | some q => rw [scan_more l t _ _ hs]; rw [hs] at h; exact h
theorem add_list (s t : ByteArray) : (s ++ t).data.toList = s.data.toList ++ t.data.toList := by simp [ByteArray.data_append]
theorem add_size (s t : ByteArray) : (s ++ t).size = s.size + t.size := by rw [← data_len, add_list, List.length_append, data_len, data_len]
theorem bytesAt_more (s t : ByteArray) (a : Int) (h : bytesAt s a ≠ []) : ∃ u, bytesAt (s ++ t) a = bytesAt s a ++ u := by
  have hi := Wire.bytesAt_in h
  unfold Wire.bytesAt
  rw [if_pos hi.1, if_pos hi.1, add_list, List.drop_append]
  exact ⟨_, rfl⟩
theorem extract_list (s : ByteArray) (i j : Nat) : (s.extract i j).data.toList = (s.data.toList.drop i).take (j - i) := by
  simp [ByteArray.data_extract, Array.toList_extract, List.extract]
theorem bytes_ext {s t : ByteArray} (h : s.data.toList = t.data.toList) : s = t := by
  rw [← bs_data s, ← bs_data t, h]
theorem extract_more (s t : ByteArray) (i j : Nat) (hj : j ≤ s.size) : (s ++ t).extract i j = s.extract i j := by
  apply bytes_ext
  rw [extract_list, extract_list, add_list]
  rcases Nat.lt_or_ge i j with h | h
  · rw [List.drop_append_of_le_length (by rw [data_len]; omega), List.take_append_of_le_length (by rw [List.length_drop, data_len]; omega)]
  · rw [show j - i = 0 by omega]; simp
theorem readT_more (s t : ByteArray) (a : Int) (r : ByteArray × Int) (h : readT s a = some r) : readT (s ++ t) a = some r := by
  unfold Wire.readT at h ⊢
  cases hr : readN (bytesAt s a) with
  | none => rw [hr] at h; cases h
  | some q =>
    have h0 : bytesAt s a ≠ [] := fun h0 => by rw [h0, Wire.readN_nil] at hr; cases hr
    obtain ⟨u, hu⟩ := bytesAt_more s t a h0
    have hi := Wire.bytesAt_in h0
    rw [hu, readN_more hr u]
    rw [hr] at h
    simp only at h ⊢
    split at h
    · rename_i hc
      rw [if_pos ⟨hc.1, hc.2.1, by rw [add_size]; omega⟩, extract_more _ _ _ _ (by omega)]
      exact h
    · cases h
theorem bytesAt_step {s : ByteArray} {a : Int} {u t : List UInt8} (h : bytesAt s a = u ++ t) (h0 : 0 ≤ a) : bytesAt s (a + (u.length : Int)) = t := by
  unfold Wire.bytesAt at h ⊢
  rw [if_pos h0] at h
  rw [if_pos (by omega), show (a + (u.length : Int)).toNat = a.toNat + u.length by omega, ← List.drop_drop, h, List.drop_left']
  rfl
theorem numB_ne (n : Int) : numB n ≠ [] := fun h => by
  have := Wire.grp_pos 9 (Wire.foldN n)
  rw [← Wire.numB_length, h] at this
  cases this
theorem bytesAt_num {s : ByteArray} {a n : Int} {t : List UInt8} (h : bytesAt s a = numB n ++ t) : 0 ≤ a :=
  (Wire.bytesAt_in (fun h0 => numB_ne n (List.append_eq_nil_iff.1 (h.symm.trans h0)).1)).1
theorem bytesAt_0 (s : ByteArray) : bytesAt s 0 = s.data.toList := by unfold Wire.bytesAt; rw [if_pos (Int.le_refl _)]; rfl
theorem bytesAt_at (a b : List UInt8) : bytesAt (bs (a ++ b)) (a.length : Int) = b := by
  unfold Wire.bytesAt
  rw [if_pos (Int.natCast_nonneg _), bs_list]
  simp

/-- What is laid is read. -/
theorem takeI_full {s : ByteArray} {a n : Int} {t : List UInt8} (h : bytesAt s a = numB n ++ t) (h1 : -9223372036854775808 ≤ n) (h2 : n ≤ 9223372036854775807) : takeI s (a, 0) = (n, a + ((numB n).length : Int), 0) := by
  unfold takeI
  rw [if_neg (by simp)]
  simp only
  rw [h, Wire.readN_numB n h1 h2 t]
theorem takeT_full {s x : ByteArray} {a : Int} {t : List UInt8} (h : bytesAt s a = nmB x ++ t) (hs : x.size ≤ 10000) : takeT s (a, 0) = (x, a + ((nmB x).length : Int), 0) := by
  have h' : bytesAt s a = numB (x.size : Int) ++ (x.data.toList ++ t) := by rw [h]; unfold nmB; rw [List.append_assoc]
  have h0 := bytesAt_num h'
  have hd : s.data.toList.drop a.toNat = numB (x.size : Int) ++ (x.data.toList ++ t) := by rw [← h']; unfold Wire.bytesAt; rw [if_pos h0]
  have hl := congrArg List.length hd
  rw [List.length_drop, data_len, List.length_append, List.length_append, data_len] at hl
  have hnp : 0 < (numB (x.size : Int)).length := List.length_pos_iff.2 (numB_ne _)
  have he : s.extract (a.toNat + (numB (x.size : Int)).length) (a.toNat + (numB (x.size : Int)).length + (x.size : Int).toNat) = x := by
    apply bytes_ext
    rw [extract_list, ← List.drop_drop, hd, List.drop_left' rfl, show a.toNat + (numB (x.size : Int)).length + (x.size : Int).toNat - (a.toNat + (numB (x.size : Int)).length) = x.data.toList.length by rw [data_len]; omega, List.take_left' rfl]
  unfold takeT
  rw [if_neg (by simp)]
  simp only
  unfold Wire.readT
  rw [h', Wire.readN_numB _ (by omega) (by omega)]
  simp only
  rw [if_pos ⟨by omega, by omega, by omega⟩, he]
  unfold nmB
  rw [List.length_append, data_len]
  push_cast
  rw [Int.add_assoc]
theorem upT_full {s : ByteArray} {a n m : Int} {t : List UInt8} (h : bytesAt s a = numB n ++ t) (h1 : 0 ≤ n) (h2 : n ≤ m) (hm : m ≤ 1000) : upT s m (a, 0) = (n, a + ((numB n).length : Int), 0) := by
  unfold upT
  rw [takeI_full h (by omega) (by omega), if_neg (by simp; omega)]
theorem fieldT_full {s : ByteArray} {f : Fd} {a : Int} {t : List UInt8} (h : bytesAt s a = encFd f ++ t) (hf : f.nm.size ≤ 10000) (hr : -1000 ≤ f.k ∧ f.k ≤ 1000 ∧ -1000 ≤ f.o ∧ f.o ≤ 1000) : fieldT s (a, 0) = (f, a + ((encFd f).length : Int), 0) := by
  have h1 : bytesAt s a = nmB f.nm ++ (numB f.k ++ (numB f.o ++ (numB (ixN f.ix) ++ t))) := by rw [h]; unfold encFd; simp
  have h0 : 0 ≤ a := by
    refine bytesAt_num (s := s) (n := (f.nm.size : Int)) (t := f.nm.data.toList ++ (numB f.k ++ (numB f.o ++ (numB (ixN f.ix) ++ t)))) ?_
    rw [h1]; unfold nmB; simp
  have e1 := takeT_full h1 hf
  have h2 := bytesAt_step h1 h0
  have e2 := takeI_full h2 (by omega) (by omega)
  have h3 := bytesAt_step h2 (by omega)
  have e3 := takeI_full h3 (by omega) (by omega)
  have h4 := bytesAt_step h3 (by omega)
  have e4 := upT_full (m := 1) h4 (by unfold ixN; split <;> decide) (by unfold ixN; split <;> decide) (by decide)
  unfold fieldT
  rw [e1]
  unfold typeT flagT
  simp only
  rw [e2]
  simp only
  rw [e3]
  simp only
  rw [e4]
  obtain ⟨nm, k, o, ix⟩ := f
  have hix : (ixN ix == 1) = ix := by cases ix <;> rfl
  simp only [hix, Prod.mk.injEq, true_and, and_true]
  unfold encFd
  simp only [List.length_append]
  push_cast
  omega
theorem fieldsT_full {s : ByteArray} {l : List Fd} {a : Int} {t : List UInt8} (hl : ∀ f ∈ l, f.nm.size ≤ 10000 ∧ -1000 ≤ f.k ∧ f.k ≤ 1000 ∧ -1000 ≤ f.o ∧ f.o ≤ 1000) (h0 : 0 ≤ a) (h : bytesAt s a = l.flatMap encFd ++ t) : ∀ n, n ≤ l.length → fieldsT s n (a, 0) = (l.take n, a + (((l.take n).flatMap encFd).length : Int), 0)
  | 0, _ => by simp [fieldsT]
  | n + 1, hn => by
    have ih := fieldsT_full hl h0 h n (by omega)
    obtain ⟨x, hx⟩ : ∃ x, l[n]? = some x := ⟨_, List.getElem?_eq_getElem (by omega)⟩
    have ht : l.take (n + 1) = l.take n ++ [x] := by rw [List.take_add_one, hx]; rfl
    have hb : bytesAt s a = (l.take n).flatMap encFd ++ (encFd x ++ ((l.drop (n + 1)).flatMap encFd ++ t)) := by
      rw [h]
      conv => lhs; rw [← List.take_append_drop (n + 1) l, ht]
      simp
    have hs := bytesAt_step hb h0
    rw [fieldsT, ih]
    simp only
    rw [fieldT_full hs (hl x (List.mem_of_getElem? hx)).1 (hl x (List.mem_of_getElem? hx)).2, ht]
    simp only [List.flatMap_append, List.length_append, List.flatMap_cons, List.flatMap_nil, List.append_nil, Prod.mk.injEq, true_and, and_true]
    push_cast
    omega
/-- Decode undoes Encode, wherever the bytes stand. -/
theorem decC_full (h b : List UInt8) (c : Cl) (hc : clsR c = true) : decC (bs (h ++ (encC c ++ b))) (h.length : Int) = some (c, (h.length : Int) + ((encC c).length : Int)) := by
  obtain ⟨hn, h8, hfs⟩ := clsR_facts hc
  have hns := rightNm_size hn
  have hl : ∀ f ∈ c.l, f.nm.size ≤ 10000 ∧ -1000 ≤ f.k ∧ f.k ≤ 1000 ∧ -1000 ≤ f.o ∧ f.o ≤ 1000 := fun f hf => by
    obtain ⟨i, hi, rfl⟩ := List.getElem_of_mem hf
    have := fieldR_facts (hfs i _ (List.getElem?_eq_getElem hi)).2
    omega
  have h1 : bytesAt (bs (h ++ (encC c ++ b))) (h.length : Int) = nmB c.nm ++ (numB (c.l.length : Int) ++ (c.l.flatMap encFd ++ b)) := by
    rw [bytesAt_at]; unfold encC; simp
  have e1 := takeT_full h1 (by omega)
  have h2 := bytesAt_step h1 (by omega)
  have e2 := upT_full (m := 8) h2 (by omega) (by omega) (by decide)
  have h3 := bytesAt_step h2 (by omega)
  have e3 := fieldsT_full hl (by omega) h3 c.l.length (Nat.le_refl _)
  rw [List.take_length] at e3
  have es : severalT (bs (h ++ (encC c ++ b))) ((h.length : Int) + ((nmB c.nm).length : Int), 0) = (c.l, (h.length : Int) + ((nmB c.nm).length : Int) + ((numB (c.l.length : Int)).length : Int) + ((c.l.flatMap encFd).length : Int), 0) := by
    unfold severalT
    rw [e2]
    simp only [Int.toNat_natCast]
    exact e3
  unfold decC
  rw [e1]
  simp only
  rw [es, if_neg (by simp [hc])]
  simp only [Option.some.injEq, Prod.mk.injEq, true_and]
  unfold encC
  simp only [List.length_append]
  push_cast
  omega
theorem encC_inj {a b : Cl} (ha : clsR a = true) (hb : clsR b = true) (h : encC a = encC b) : a = b := by
  have h1 := decC_full [] [] a ha
  have h2 := decC_full [] [] b hb
  rw [h] at h1
  rw [h1] at h2
  exact (Prod.mk.inj (Option.some.inj h2)).1
theorem same_bytes {a b : Cl} (ha : clsR a = true) (hb : clsR b = true) : ((bs (encC a)).toList == (bs (encC b)).toList) = sameC a b := by
  rw [Bool.eq_iff_iff, beq_iff_eq, sameC_iff]
  constructor
  · intro h
    refine encC_inj ha hb ?_
    rw [ByteArray.toList_eq, ByteArray.toList_eq, bs_list, bs_list] at h
    exact h
  · rintro rfl; rfl
end Go.Proofs.YtmobnlofbopbeaaGreatDoor.Cls
/- Layer 4: what is cut off is none; a class of raw numbers is right: plain mathematics. -/
namespace Go.Proofs.YtmobnlofbopbeaaGreatDoor.Cls
open Val (bs bs_size bs_list bs_data bs_append data_len pickN pickN_lt)
open Wire (numB readN readT bytesAt)

/-- Under an error nothing is read. -/
theorem takeI_stuck (s : ByteArray) {st : Int × Int} (h : st.2 ≠ 0) : takeI s st = (0, st) := by unfold takeI; rw [if_pos h]
theorem takeT_stuck (s : ByteArray) {st : Int × Int} (h : st.2 ≠ 0) : takeT s st = (⟨#[]⟩, st) := by unfold takeT; rw [if_pos h]
theorem takeI_err {s : ByteArray} {st : Int × Int} (h : (takeI s st).2.2 = 0) : st.2 = 0 := Classical.byContradiction fun hn => by rw [takeI_stuck s hn] at h; exact hn h
theorem takeT_err {s : ByteArray} {st : Int × Int} (h : (takeT s st).2.2 = 0) : st.2 = 0 := Classical.byContradiction fun hn => by rw [takeT_stuck s hn] at h; exact hn h
theorem upT_ok {s : ByteArray} {m : Int} {st : Int × Int} (h : (upT s m st).2.2 = 0) : ¬ ((takeI s st).1 < 0 ∨ m < (takeI s st).1) ∧ (takeI s st).2.2 = 0 := by
  unfold upT at h
  split at h
  · cases h
  · rename_i hn; exact ⟨hn, h⟩
theorem upT_err {s : ByteArray} {m : Int} {st : Int × Int} (h : (upT s m st).2.2 = 0) : st.2 = 0 := takeI_err (upT_ok h).2
theorem fieldT_ok {s : ByteArray} {st : Int × Int} (h : (fieldT s st).2.2 = 0) : (upT s 1 (takeI s (takeI s (takeT s st).2).2).2).2.2 = 0 ∧ (takeI s (takeI s (takeT s st).2).2).2.2 = 0 ∧ (takeI s (takeT s st).2).2.2 = 0 ∧ (takeT s st).2.2 = 0 := by
  have h1 : (upT s 1 (takeI s (takeI s (takeT s st).2).2).2).2.2 = 0 := h
  exact ⟨h1, upT_err h1, takeI_err (upT_err h1), takeI_err (takeI_err (upT_err h1))⟩

/-- What was read without an error is read alike with more behind it. -/
theorem takeI_more (s t : ByteArray) {st : Int × Int} (h : (takeI s st).2.2 = 0) : takeI (s ++ t) st = takeI s st := by
  have h0 := takeI_err h
  unfold takeI at h ⊢
  rw [if_neg (by simp [h0])] at h ⊢
  rw [if_neg (by simp [h0])]
  cases hr : readN (bytesAt s st.1) with
  | none => rw [hr] at h; cases h
  | some r =>
    have hne : bytesAt s st.1 ≠ [] := fun h0 => by rw [h0, Wire.readN_nil] at hr; cases hr
    obtain ⟨u, hu⟩ := bytesAt_more s t st.1 hne
    rw [hu, readN_more hr u]
theorem takeT_more (s t : ByteArray) {st : Int × Int} (h : (takeT s st).2.2 = 0) : takeT (s ++ t) st = takeT s st := by
  have h0 := takeT_err h
  unfold takeT at h ⊢
  rw [if_neg (by simp [h0])] at h ⊢
  rw [if_neg (by simp [h0])]
  cases hr : readT s st.1 with
  | none => rw [hr] at h; cases h
  | some r => rw [readT_more s t st.1 r hr]
theorem upT_more (s t : ByteArray) {m : Int} {st : Int × Int} (h : (upT s m st).2.2 = 0) : upT (s ++ t) m st = upT s m st := by
  have := upT_ok h
  unfold upT
  rw [takeI_more s t this.2]
theorem fieldT_more (s t : ByteArray) {st : Int × Int} (h : (fieldT s st).2.2 = 0) : fieldT (s ++ t) st = fieldT s st := by
  obtain ⟨h1, h2, h3, h4⟩ := fieldT_ok h
  unfold fieldT typeT flagT
  rw [takeT_more s t h4, takeI_more s t h3, takeI_more s t h2, upT_more s t h1]
theorem fieldsT_more (s t : ByteArray) (st : Int × Int) : ∀ n, (fieldsT s n st).2.2 = 0 → fieldsT (s ++ t) n st = fieldsT s n st
  | 0, _ => rfl
  | n + 1, h => by
    have h1 : (fieldT s (fieldsT s n st).2).2.2 = 0 := h
    have ih := fieldsT_more s t st n (takeT_err (fieldT_ok h1).2.2.2)
    rw [fieldsT, fieldsT, ih, fieldT_more s t h1]
theorem fieldsT_err (s : ByteArray) (st : Int × Int) : ∀ n, (fieldsT s n st).2.2 = 0 → st.2 = 0
  | 0, h => h
  | n + 1, h => fieldsT_err s st n (takeT_err (fieldT_ok (show (fieldT s (fieldsT s n st).2).2.2 = 0 from h)).2.2.2)
theorem severalT_more (s t : ByteArray) {st : Int × Int} (h : (severalT s st).2.2 = 0) : severalT (s ++ t) st = severalT s st := by
  unfold severalT at h ⊢
  have h1 := fieldsT_err s _ _ h
  rw [upT_more s t h1, fieldsT_more s t _ _ h]
theorem severalT_err {s : ByteArray} {st : Int × Int} (h : (severalT s st).2.2 = 0) : st.2 = 0 := by
  unfold severalT at h
  exact upT_err (fieldsT_err s _ _ h)
theorem decC_more (s t : ByteArray) (a : Int) {r : Cl × Int} (h : decC s a = some r) : decC (s ++ t) a = some r := by
  unfold decC at h ⊢
  split at h
  · cases h
  · rename_i hn
    have h0 : (severalT s (takeT s (a, 0)).2).2.2 = 0 := Classical.byContradiction fun hc => hn (.inl hc)
    rw [takeT_more s t (severalT_err h0), severalT_more s t h0, if_neg hn]
    exact h

/-- The place stays within the text. -/
def InR (s : ByteArray) (st : Int × Int) : Prop := 0 ≤ st.1 ∧ st.1 ≤ s.size
theorem takeI_inR {s : ByteArray} {st : Int × Int} (h : InR s st) : InR s (takeI s st).2 := by
  unfold takeI
  split
  · exact h
  · cases hr : readN (bytesAt s st.1) with
    | none => exact ⟨Int.le_refl _, Int.natCast_nonneg _⟩
    | some r =>
      have hl := Wire.readN_len (n := r.1) (k := r.2) hr
      rcases bytesAt_len (s := s) h.1 with h1 | h1
      · exact ⟨by have := h.1; show 0 ≤ st.1 + (r.2 : Int); omega, by show st.1 + (r.2 : Int) ≤ _; omega⟩
      · rw [h1, Wire.readN_nil] at hr; cases hr
theorem takeT_inR {s : ByteArray} {st : Int × Int} (h : InR s st) : InR s (takeT s st).2 := by
  unfold takeT
  split
  · exact h
  · cases hr : readT s st.1 with
    | none => exact ⟨Int.le_refl _, Int.natCast_nonneg _⟩
    | some r =>
      unfold Wire.readT at hr
      cases hn : readN (bytesAt s st.1) with
      | none => rw [hn] at hr; cases hr
      | some q =>
        rw [hn] at hr
        simp only at hr
        split at hr
        · rename_i hq
          cases hr
          exact ⟨by have := h.1; show 0 ≤ st.1 + (q.2 : Int) + q.1; omega, hq.2.2⟩
        · cases hr
theorem upT_inR {s : ByteArray} {m : Int} {st : Int × Int} (h : InR s st) : InR s (upT s m st).2 := by
  unfold upT
  split
  · exact takeI_inR h
  · exact takeI_inR h
theorem fieldT_inR {s : ByteArray} {st : Int × Int} (h : InR s st) : InR s (fieldT s st).2 := upT_inR (takeI_inR (takeI_inR (takeT_inR h)))
theorem fieldsT_inR {s : ByteArray} {st : Int × Int} (h : InR s st) : ∀ n, InR s (fieldsT s n st).2
  | 0 => h
  | n + 1 => fieldT_inR (fieldsT_inR h n)
theorem decC_inR {s : ByteArray} {r : Cl × Int} (h : decC s 0 = some r) : r.2 ≤ s.size := by
  unfold decC at h
  split at h
  · cases h
  · cases h
    exact (fieldsT_inR (upT_inR (takeT_inR (s := s) (st := (0, 0)) ⟨Int.le_refl _, Int.natCast_nonneg _⟩)) _).2
/-- Bytes that are cut off are none. -/
theorem decC_cut {c : Cl} (hc : clsR c = true) (k : Nat) (hk : k < (encC c).length) : decC (bs ((encC c).take k)) 0 = none := by
  cases h : decC (bs ((encC c).take k)) 0 with
  | none => rfl
  | some r =>
    exfalso
    have h1 := decC_more _ (bs ((encC c).drop k)) 0 h
    rw [bs_append, List.take_append_drop] at h1
    have h2 := decC_full [] [] c hc
    simp only [List.nil_append, List.append_nil, List.length_nil, Int.natCast_zero] at h2
    rw [h2] at h1
    have h3 := decC_inR h
    rw [← Option.some.inj h1, bs_size, List.length_take] at h3
    simp only at h3
    omega
theorem encC_ne (c : Cl) : encC c ≠ [] := by
  unfold encC nmB
  intro h
  exact numB_ne _ (List.append_eq_nil_iff.1 (List.append_eq_nil_iff.1 h).1).1
theorem encC_len {c : Cl} (hc : clsR c = true) : (encC c).length ≤ 200000 := by
  obtain ⟨hn, h8, hfs⟩ := clsR_facts hc
  have hns := rightNm_size hn
  have h1 := nmB_len (s := c.nm) (by omega)
  have h2 := Wire.numB_len (c.l.length : Int)
  have h3 := encFds_len c.l (fun f hf => by
    obtain ⟨i, hi, rfl⟩ := List.getElem_of_mem hf
    have := fieldR_facts (hfs i _ (List.getElem?_eq_getElem hi)).2
    omega)
  unfold encC
  rw [List.length_append, List.length_append]
  omega

/-! A class of raw numbers is right. -/
theorem names_right : rightNm ⟨#[97]⟩ = true ∧ rightNm ⟨#[98, 50]⟩ = true ∧ rightNm ⟨#[110, 97, 109, 101]⟩ = true ∧ rightNm ⟨#[110, 101, 120, 116, 95, 111, 110, 101]⟩ = true ∧ rightNm ⟨#[107, 105, 100, 115]⟩ = true ∧ rightNm ⟨#[120]⟩ = true := ⟨by kernel_rfl, by kernel_rfl, by kernel_rfl, by kernel_rfl, by kernel_rfl, by kernel_rfl⟩
theorem classes_right : rightNm ⟨#[110, 111, 100, 101]⟩ = true ∧ rightNm ⟨#[105, 116, 101, 109]⟩ = true ∧ rightNm ⟨#[117, 115, 101, 114]⟩ = true ∧ rightNm ⟨#[112, 97, 103, 101, 95, 49]⟩ = true ∧ rightNm ⟨#[108, 101, 97, 102]⟩ = true ∧ rightNm ⟨#[113]⟩ = true := ⟨by kernel_rfl, by kernel_rfl, by kernel_rfl, by kernel_rfl, by kernel_rfl, by kernel_rfl⟩
theorem nameN_right (i : Nat) : rightNm (nameN i) = true := by
  obtain ⟨h0, h1, h2, h3, h4, h5⟩ := names_right
  unfold nameN
  split
  · exact h0
  · split
    · exact h1
    · split
      · exact h2
      · split
        · exact h3
        · split
          · exact h4
          · exact h5
theorem classN_right (i : Nat) : rightNm (classN i) = true := by
  obtain ⟨h0, h1, h2, h3, h4, h5⟩ := classes_right
  unfold classN
  split
  · exact h0
  · split
    · exact h1
    · split
      · exact h2
      · split
        · exact h3
        · split
          · exact h4
          · exact h5
theorem fieldOf_right (r : FRaw) : fieldR (fieldOf r) = true := by
  have hk := pickN_lt r.k (n := 5) (by decide)
  have ho := pickN_lt r.o (n := 4) (by decide)
  unfold fieldR fieldOf kindOf
  simp only [nameN_right, Bool.true_and]
  generalize pickN r.k 5 = K at *
  generalize pickN r.o 4 = O at *
  have hK : K = 0 ∨ K = 1 ∨ K = 2 ∨ K = 3 ∨ K = 4 := by omega
  have hO : O = 0 ∨ O = 1 ∨ O = 2 ∨ O = 3 := by omega
  rcases hK with rfl | rfl | rfl | rfl | rfl <;> rcases hO with rfl | rfl | rfl | rfl <;> cases r.ix <;> decide
theorem firstOf_append {α : Type} (p : α → Bool) : ∀ (l m : List α) (k : Nat), firstOf p (l ++ m) k = if firstOf p l k < 0 then firstOf p m (k + l.length) else firstOf p l k
  | [], m, k => by simp [firstOf]
  | x :: r, m, k => by
    rw [List.cons_append, firstOf, firstOf]
    split
    · rw [if_neg (by omega)]
    · rw [firstOf_append p r m (k + 1), List.length_cons, show k + 1 + r.length = k + (r.length + 1) by omega]
/-- Each field stands where its name first stands, and is right. -/
def Uniq (l : List Fd) : Prop := ∀ (i : Nat) (f : Fd), l[i]? = some f → fieldAt l f.nm = (i : Int) ∧ fieldR f = true
theorem uniq_add {l : List Fd} {f : Fd} (h : Uniq l) (hf : fieldR f = true) : Uniq (addF l f) := by
  unfold addF
  split
  · rename_i hn
    intro i g hg
    rcases Nat.lt_or_ge i l.length with hi | hi
    · rw [List.getElem?_append_left hi] at hg
      have h1 := h i g hg
      refine ⟨?_, h1.2⟩
      have h2 := h1.1
      unfold fieldAt at h2 ⊢
      rw [firstOf_append, if_neg (by omega), h2]
    · have hi2 : i = l.length := by
        have := (List.getElem?_eq_some_iff.1 hg).1
        simp at this; omega
      subst hi2
      simp at hg
      subst hg
      refine ⟨?_, hf⟩
      unfold fieldAt at hn ⊢
      rw [firstOf_append, if_pos hn, firstOf, show isNm f.nm f = true from beq_self_eq_true _]
      simp
  · exact h
theorem uniq_fields (rs : List FRaw) : ∀ k, Uniq (fieldsK rs k)
  | 0 => fun i f h => by simp [fieldsK] at h
  | k + 1 => by
    cases h : rs[k]? with
    | none =>
      have : fieldsK rs (k + 1) = fieldsK rs k := by unfold fieldsK; rw [List.take_add_one, h]; simp
      rw [this]; exact uniq_fields rs k
    | some r => rw [fieldsK_succ h]; exact uniq_add (uniq_fields rs k) (fieldOf_right r)
theorem classOf_right (x : Raw4) : clsR (classOf x) = true := by
  unfold clsR classOf
  simp only [classN_right, Bool.true_and]
  rw [decide_eq_true (by have := fieldsK_len x.l 6; omega), Bool.true_and, allOk_iff]
  intro i f hf
  have := uniq_fields x.l 6 i f hf
  unfold okAt
  rw [this.1, this.2, Nat.zero_add]
  simp
end Go.Proofs.YtmobnlofbopbeaaGreatDoor.Cls
