/- Layer 4: Encode, of any class. -/
import Derived.Test.YtmobnlofbopbeaaDoorClassEnc
namespace Go.Proofs.YtmobnlofbopbeaaDoor.Cls
open Go.RowKit
open Kit (ret_int ret_bool Moved)
open Val (Env flat bs bs_size Vl Rep RepL add_bs)
open Wire (numB)

attribute [local go_sem] Oper.semAt_some

theorem take_fields (l : List Fd) (k : Nat) (x : Fd) (hx : l[k]? = some x) : (l.take (k + 1)).flatMap encFd = (l.take k).flatMap encFd ++ encFd x := by
  have h : l.take (k + 1) = l.take k ++ [x] := by
    rw [List.take_add_one, hx]; rfl
  rw [h, List.flatMap_append]; simp

set_option maxRecDepth 100000 in
set_option maxHeartbeats 4000000 in
/-- Encode. -/
theorem Encode_any (ae : Addr) (c : Cl) (B : Nat) (w : World) (lv : Value) (hB : B ≤ w.heap.size) (hE : Env ae w) (hr : FdL B w c.l lv) :
    Calls Tryd.prog 11 #[.agg #[.string c.nm, lv]] w fun e w' => e = .returned (if clsR c then .tuple #[.string (bs (encC c)), .int .i64 0] else .tuple #[.string ⟨#[]⟩, .int .i64 40]) ∧ Below w.heap.size w w' := by
  obtain ⟨a1, c1, rfl, z1⟩ := hr.len
  unfold maxLen at z1
  have B0 := Lib.hid (Kit.below_alloc w (.cells #[.string c.nm, .slice a1 c.l.length c1] 27))
  have P0 := Lib.hid (And.intro (Kit.cell_new w #[.string c.nm, .slice a1 c.l.length c1] 27 0 rfl) (Kit.cell_new w #[.string c.nm, .slice a1 c.l.length c1] 27 1 rfl))
  have HR := Lib.hid (right_cl ae c B _ _ (by have := B0.out.size; omega) (hE.below B0.out) (hr.below B0.out hB))
  have HE := Lib.hid (And.intro hr hB)
  clear hE hr
  cases h1 : clsR c
  · rw [if_neg (by simp)]
    go_enter Tryd.func11, Tryd.ntmps11
    go_wp2_with fail
    refine HR.out.mono ?_; rintro e w1 ⟨rfl, hB1⟩
    rw [h1]
    go_wp2
    go_ret2
    exact ⟨rfl, B0.out.trans (hB1.mono B0.out.size)⟩
  · rw [if_pos rfl]
    obtain ⟨hn, h8, hfs⟩ := clsR_facts h1
    have hns := rightNm_size hn
    have hfz : ∀ f ∈ c.l, f.nm.size ≤ 10000 := fun f hf => by
      obtain ⟨i, hi, rfl⟩ := List.getElem_of_mem hf
      have := (fieldR_facts (hfs i _ (List.getElem?_eq_getElem hi)).2).1
      omega
    have HF := Lib.hid (fun (i : Nat) (f : Fd) (hf : c.l[i]? = some f) W => fieldBytes_any f (by have := (fieldR_facts (hfs i f hf).2).1; omega) (by have := fieldR_facts (hfs i f hf).2; omega) (by have := fieldR_facts (hfs i f hf).2; omega) (by have := fieldR_facts (hfs i f hf).2; omega) (by have := fieldR_facts (hfs i f hf).2; omega) W)
    have HN := Lib.hid (fun W => nameBytes_any c.nm (by omega) W)
    have HM := Lib.hid (fun W => Wire.num_any (c.l.length : Int) (by omega) (by omega) W)
    have l1 := nmB_len (s := c.nm) (by omega)
    have l2 := Wire.numB_len (c.l.length : Int)
    have a1' := add_bs (P := Tryd.prog) (nmB c.nm) (numB (c.l.length : Int)) (by omega)
    have HZ := Lib.hid hfz
    unfold encC
    rw [← List.append_assoc]
    have hl0 : (nmB c.nm ++ numB (c.l.length : Int)).length ≤ 11000 := by rw [List.length_append]; omega
    generalize nmB c.nm = NB at *
    generalize numB (c.l.length : Int) = NL at *
    clear hn hns hfs hfz l1 l2
    go_enter Tryd.func11, Tryd.ntmps11
    go_wp2_with fail
    refine HR.out.mono ?_; rintro e w1 ⟨rfl, hB1⟩
    rw [h1]
    have B1 := Lib.hid ((B0.out.trans (hB1.mono B0.out.size)).drew)
    have P1 := Lib.hid (And.intro ((hB1.cell (p := ⟨w.heap.size, 0, none⟩) (Kit.lt_of_cell P0.out.1)).trans P0.out.1) ((hB1.cell (p := ⟨w.heap.size, 1, none⟩) (Kit.lt_of_cell P0.out.2)).trans P0.out.2))
    obtain ⟨p0, p1⟩ := P1.out
    clear hB1 HR B0 P0 h1
    go_upto_region 3 with fail
    go_cut [4] from 10 (fun v wx => v = .string (bs (NB ++ NL)) ∧ Below w.heap.size w wx ∧ wx.cell? ⟨w.heap.size, 0, none⟩ = some (.string c.nm) ∧ wx.cell? ⟨w.heap.size, 1, none⟩ = some (.slice a1 c.l.length c1))
    case first =>
      go_region_law (first
          | (go_simp; go_at_call 24; refine (HN.out _).mono ?_; rintro e w2 ⟨rfl, hB⟩; have P2 := Lib.hid (And.intro ((hB.cell (p := ⟨w.heap.size, 0, none⟩) (Kit.lt_of_cell P1.out.1)).trans P1.out.1) ((hB.cell (p := ⟨w.heap.size, 1, none⟩) (Kit.lt_of_cell P1.out.2)).trans P1.out.2)); have B2 := Lib.hid (B1.out.trans (hB.mono B1.out.size)); clear hB p0 p1 P1 HN B1; obtain ⟨p0, p1⟩ := P2.out)
          | (go_simp; go_at_call 25; refine (HM.out _).mono ?_; rintro e w3 ⟨rfl, hB⟩; have P3 := Lib.hid (And.intro ((hB.cell (p := ⟨w.heap.size, 0, none⟩) (Kit.lt_of_cell P2.out.1)).trans P2.out.1) ((hB.cell (p := ⟨w.heap.size, 1, none⟩) (Kit.lt_of_cell P2.out.2)).trans P2.out.2)); have B3 := Lib.hid (B2.out.trans (hB.mono B2.out.size)); clear hB p0 p1 P2 HM B2; obtain ⟨p0, p1⟩ := P3.out))
      all_goals
        go_wp2
        go_meet
        exact ⟨rfl, B3.out, P3.out.1, P3.out.2⟩
    case rest =>
    obtain ⟨rfl, hBc, p0, p1⟩ := hcut
    have BC := Lib.hid hBc
    have PC := Lib.hid (And.intro p0 p1)
    clear hBc P1 B1 HN HM a1'
    generalize hH : NB ++ NL = H0 at *
    have HH := Lib.hid hH
    clear hH
    go_wp2
    go_loopw [4, 6, 21] (fun s _ j wr => ∃ k : Nat, k ≤ c.l.length ∧ j = .int .i64 k ∧ s = .string (bs (H0 ++ (c.l.take k).flatMap encFd)) ∧ Below w.heap.size w wr) (fun _ _ j _ => c.l.length - (intOf j).toNat)
    case atStart => exact ⟨0, by omega, rfl, by simp, BC.out⟩
    case round =>
      obtain ⟨k, hk, rfl, rfl, hBw⟩ := hrel
      have hsz := hBw.size
      by_cases hlt : k < c.l.length
      · obtain ⟨x, hx⟩ : ∃ x, c.l[k]? = some x := ⟨_, List.getElem?_eq_getElem (by omega)⟩
        obtain ⟨b1, o1, d1, e1, hb1, q0, q1, q2, q3⟩ := (HE.out.1.below hBw HE.out.2).at hx
        cases e1
        have HX := Lib.hid (HF.out k x hx (wr.alloc (.cells #[.string x.nm, .int .i64 x.k, .int .i64 x.o, .bool x.ix] 46)))
        have hadd := add_bs (P := Tryd.prog) (H0 ++ (c.l.take k).flatMap encFd) (encFd x) (by
          have h1 := encFd_len (HZ.out x (List.mem_of_getElem? hx))
          have h2 := encFds_len (c.l.take k) (fun f hf => HZ.out f (List.mem_of_mem_take hf))
          rw [List.length_take] at h2
          rw [List.length_append]; omega)
        have HT := Lib.hid (take_fields c.l k x hx)
        have i1 : (0 : Int) ≤ (k : Int) := by omega
        have i2 : (k : Int) < (c.l.length : Int) := by omega
        clear hx p0 p1
        go_wp2_with fail
        refine HX.out.mono ?_; rintro e w3 ⟨rfl, hB5⟩
        have BX := Lib.hid (hBw.trans (((Kit.below_alloc wr (.cells #[.string x.nm, .int .i64 x.k, .int .i64 x.o, .bool x.ix] 46)).mono hsz).trans (hB5.mono (by simp; omega))))
        clear hB5
        go_wp2
        go_roundw
        case rel =>
          refine ⟨k + 1, by omega, by go_num, ?_, BX.out⟩
          rw [HT.out]
        case measure => simp [intOf]; omega
      · have hkl : k = c.l.length := by omega
        subst hkl
        rw [List.take_length]
        go_wp2
        go_ret2
        exact ⟨by simp [← HH.out], hBw⟩
end Go.Proofs.YtmobnlofbopbeaaDoor.Cls
