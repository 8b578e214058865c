/- Layer 4: the document's own Field and Same; pick. -/
import Derived.Test.YtmobnlofbopbeaaGreatDoorMG
namespace Go.Proofs.YtmobnlofbopbeaaGreatDoor.Cls
open Go.RowKit
open Kit (ret_int ret_bool Moved)
open Val (Env flat bs Vl Rep RepL)

attribute [local go_sem] Oper.semAt_some
attribute [local go_sem high] run_neq_field run_guard_field

set_option maxRecDepth 100000 in
set_option maxHeartbeats 1000000 in
theorem refField_any (c : Cl) (nm : ByteArray) (B : Nat) (w : World) (lv : Value) (hB : B ≤ w.heap.size) (hr : FdL B w c.l lv) :
    Calls Tryz.prog 73 #[.agg #[.string c.nm, lv], .string nm] w fun e w' => e = .returned (fieldV c.l nm) ∧ Below w.heap.size w w' := by
  obtain ⟨a1, c1, rfl, z1⟩ := hr.len
  unfold maxLen at z1
  have B0 := Lib.hid (Kit.below_alloc w (.cells #[.string c.nm, .slice a1 c.l.length c1] 56))
  have p1 := Kit.cell_new w #[.string c.nm, .slice a1 c.l.length c1] 56 1 rfl
  have HL := Lib.hid (hr.below B0.out hB)
  clear hr
  go_enter Tryz.func73, Tryz.ntmps73
  go_upto_region 1 with fail
  generalize w.alloc (.cells #[.string c.nm, .slice a1 c.l.length c1] 56) = W0 at *
  go_wp2
  go_loopw [6] (fun j wr => ∃ k : Nat, k ≤ c.l.length ∧ j = .int .i64 k ∧ W0 = wr ∧ ∀ i x, i < k → c.l[i]? = some x → isNm nm x = false) (fun j _ => c.l.length - (intOf j).toNat)
  case atStart => exact ⟨0, by omega, rfl, rfl, by omega⟩
  case round =>
    obtain ⟨k, hk, rfl, rfl, hz⟩ := hrel
    have HZ := Lib.hid hz; clear hz
    have HF := Lib.hid (firstOf_at (isNm nm) c.l 0 k (by omega) HZ.out)
    by_cases hlt : k < c.l.length
    · obtain ⟨x, hx⟩ : ∃ x, c.l[k]? = some x := ⟨_, List.getElem?_eq_getElem (by omega)⟩
      obtain ⟨b1, o1, d1, e1, hb1, q0, q1, q2, q3⟩ := HL.out.at hx
      cases e1
      have i1 : (0 : Int) ≤ (k : Int) := by omega
      have i2 : (k : Int) < (c.l.length : Int) := by omega
      have HXX := Lib.hid hx
      clear hx
      cases hc : x.nm.toList == nm.toList
      · have HC := Lib.hid (show isNm nm x = false from hc)
        go_wp2
        go_roundw
        case rel =>
          refine ⟨k + 1, by omega, by go_num, by simp, fun i a hi ha => ?_⟩
          rcases Nat.lt_or_ge i k with h | h
          · exact HZ.out i a h ha
          · obtain rfl : i = k := by omega
            rw [HXX.out] at ha; cases ha
            exact HC.out
        case measure => simp [intOf]; omega
      · have HC := Lib.hid (show isNm nm x = true from hc)
        go_wp2
        go_ret2
        refine ⟨?_, B0.out⟩
        have hfa : fieldAt c.l nm = (k : Int) := by
          unfold fieldAt
          rw [HF.out, List.drop_eq_getElem_cons hlt, firstOf, (List.getElem?_eq_some_iff.1 HXX.out).2, HC.out]
          simp
        unfold fieldV
        rw [hfa, if_neg (by omega)]
        rfl
    · have hkl : k = c.l.length := by omega
      subst hkl
      go_wp2
      go_ret2
      refine ⟨?_, B0.out⟩
      have hfa : fieldAt c.l nm = -1 := by
        unfold fieldAt
        rw [HF.out, List.drop_length, firstOf]
      unfold fieldV
      rw [hfa, if_pos (by decide)]
      rfl

set_option maxRecDepth 100000 in
set_option maxHeartbeats 2000000 in
theorem refSame_cl (a b : Cl) (B : Nat) (w : World) (lv mv : Value) (hB : B ≤ w.heap.size) (hl : FdL B w a.l lv) (hm : FdL B w b.l mv) :
    Calls Tryz.prog 68 #[.agg #[.string a.nm, lv], .agg #[.string b.nm, mv]] w fun e w' => e = .returned (.bool (sameC a b)) ∧ Below w.heap.size w w' := by
  obtain ⟨a1, c1, rfl, z1⟩ := hl.len
  obtain ⟨a2, c2, rfl, z2⟩ := hm.len
  unfold maxLen at z1 z2
  have B0 := Lib.hid (Kit.below_alloc2 w (.cells #[.string a.nm, .slice a1 a.l.length c1] 56) (.cells #[.string b.nm, .slice a2 b.l.length c2] 56))
  have P0 := Lib.hid (And.intro (Kit.cell_kept (.cells #[.string b.nm, .slice a2 b.l.length c2] 56) (Kit.cell_new w #[.string a.nm, .slice a1 a.l.length c1] 56 0 rfl)) (Kit.cell_kept (.cells #[.string b.nm, .slice a2 b.l.length c2] 56) (Kit.cell_new w #[.string a.nm, .slice a1 a.l.length c1] 56 1 rfl)))
  have q0 := Kit.cell_new (w.alloc (.cells #[.string a.nm, .slice a1 a.l.length c1] 56)) #[.string b.nm, .slice a2 b.l.length c2] 56 0 rfl
  have q1 := Kit.cell_new (w.alloc (.cells #[.string a.nm, .slice a1 a.l.length c1] 56)) #[.string b.nm, .slice a2 b.l.length c2] 56 1 rfl
  rw [World.size_alloc] at q0 q1
  have Q0 := Lib.hid (And.intro q0 q1)
  have HL := Lib.hid (And.intro (hl.below B0.out hB) (hm.below B0.out hB))
  clear hl hm q0 q1
  cases hn : a.nm.toList == b.nm.toList
  · have HS := Lib.hid (show sameC a b = false by unfold sameC; rw [hn]; rfl)
    have hn2 : (a.nm.toList != b.nm.toList) = true := by unfold bne; rw [hn]; rfl
    go_enter Tryz.func68, Tryz.ntmps68
    go_wp2
    go_ret
    exact ⟨ret_bool HS.out.symm, B0.out⟩
  · have HS := Lib.hid (show sameC a b = decide (a.l = b.l) by unfold sameC; rw [hn]; rfl)
    have hn2 : (a.nm.toList != b.nm.toList) = false := by unfold bne; rw [hn]; rfl
    obtain ⟨p0, p1⟩ := P0.out
    obtain ⟨q0, q1⟩ := Q0.out
    by_cases hlen : a.l.length = b.l.length
    · have hln : ((a.l.length : Int) != (b.l.length : Int)) = false := by simp [hlen]
      have HLen := Lib.hid hlen
      clear hlen
      go_enter Tryz.func68, Tryz.ntmps68
      go_upto_region 1 with fail
      generalize (w.alloc (.cells #[.string a.nm, .slice a1 a.l.length c1] 56)).alloc (.cells #[.string b.nm, .slice a2 b.l.length c2] 56) = W0 at *
      go_wp2
      go_loopw [5] (fun j wr => ∃ k : Nat, k ≤ a.l.length ∧ j = .int .i64 k ∧ Below W0.heap.size W0 wr ∧ ∀ i, i < k → a.l[i]? = b.l[i]?) (fun j _ => a.l.length - (intOf j).toNat)
      case atStart => exact ⟨0, by omega, rfl, Below.refl _ _, by omega⟩
      case round =>
        obtain ⟨k, hk, rfl, hBr, hz⟩ := hrel
        have HZ := Lib.hid hz; clear hz p0 p1 q0 q1
        have hBW := B0.out.trans (hBr.mono B0.out.size)
        have p1 := (hBr.cell (p := ⟨w.heap.size, 1, none⟩) (Kit.lt_of_cell P0.out.2)).trans P0.out.2
        have q1 := (hBr.cell (p := ⟨w.heap.size + 1, 1, none⟩) (Kit.lt_of_cell Q0.out.2)).trans Q0.out.2
        have hbs := B0.out.size
        have hle : a.l.length ≤ b.l.length := Nat.le_of_eq HLen.out
        have hge : b.l.length ≤ a.l.length := Nat.le_of_eq HLen.out.symm
        by_cases hlt : k < a.l.length
        · obtain ⟨x, hx⟩ : ∃ x, a.l[k]? = some x := ⟨_, List.getElem?_eq_getElem (by omega)⟩
          obtain ⟨y, hy⟩ : ∃ y, b.l[k]? = some y := ⟨_, List.getElem?_eq_getElem (by omega)⟩
          obtain ⟨b1, o1, d1, e1, hb1, s0, s1, s2, s3⟩ := (HL.out.1.below hBr (by omega)).at hx
          obtain ⟨b2, o2, d2, e2, hb2, r0, r1, r2, r3⟩ := (HL.out.2.below hBr (by omega)).at hy
          cases e1; cases e2
          have i1 : (0 : Int) ≤ (k : Int) := by omega
          have i2 : (k : Int) < (a.l.length : Int) := by omega
          have i3 : (k : Int) < (b.l.length : Int) := by omega
          have HXY := Lib.hid (And.intro hx hy)
          clear hx hy
          go_upto_region 6 with fail
          go_quiet (fail)
          by_cases hxy : x = y
          · have hd : decide (x = y) = true := decide_eq_true hxy
            rw [hd]
            go_wp2
            go_roundw
            case rel =>
              refine ⟨k + 1, by omega, by go_num, Kit.bdN hBr _, fun i hi => ?_⟩
              rcases Nat.lt_or_ge i k with h | h
              · exact HZ.out i h
              · obtain rfl : i = k := by omega
                rw [HXY.out.1, HXY.out.2, hxy]
            case measure => simp [intOf]; omega
          · have hd : decide (x = y) = false := decide_eq_false hxy
            rw [hd]
            have HN := Lib.hid (show decide (a.l = b.l) = false from decide_eq_false (fun e => hxy (by have h1 := HXY.out.1; rw [e, HXY.out.2] at h1; exact (Option.some.inj h1).symm)))
            clear hxy
            go_wp2
            go_ret
            exact ⟨ret_bool (by rw [HS.out, HN.out]), Kit.bdN hBW _⟩
        · have hkl : k = a.l.length := by omega
          subst hkl
          have HN := Lib.hid (show decide (a.l = b.l) = true from decide_eq_true (List.ext_getElem? fun i => by
            rcases Nat.lt_or_ge i a.l.length with h | h
            · exact HZ.out i h
            · rw [List.getElem?_eq_none h, List.getElem?_eq_none (by omega)]))
          go_wp2
          go_ret
          exact ⟨ret_bool (by rw [HS.out, HN.out]), hBW⟩
    · have hln : ((a.l.length : Int) != (b.l.length : Int)) = true := by simp; omega
      have HN := Lib.hid (show decide (a.l = b.l) = false from decide_eq_false (fun e => hlen (by rw [e])))
      clear hlen
      go_enter Tryz.func68, Tryz.ntmps68
      go_wp2
      go_ret
      exact ⟨ret_bool (by rw [HS.out, HN.out]), B0.out⟩
end Go.Proofs.YtmobnlofbopbeaaGreatDoor.Cls
