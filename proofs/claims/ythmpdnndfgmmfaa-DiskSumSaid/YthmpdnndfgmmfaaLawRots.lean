/- Layer 2's law DiskRots: the walk. -/
import Derived.Test.YthmpdnndfgmmfaaLawSt
namespace Go.Proofs.Ythmpdnndfgmmfaa.Disk
open Go.RowKit

attribute [local go_sem] Oper.semAt_some

theorem all_at (D : Dk) (ho : D.Ok) (i j : Nat) (hi : i < D.n) (hj : j < 64) : D.all[i * 64 + j]? = (D.there i)[j]? := by
  unfold Dk.all
  exact flatMap_at D.there 64 (List.range D.n) (fun x _ => ho.there_len x) i j i (List.getElem?_range hi) hj
theorem filled_ok (ss ps : List CallD) : (filledD ss ps).Ok := by
  refine ⟨by rw [filled_n]; decide, by rw [filled_n]; decide, fun i => ?_, fun x hx => ?_, Nat.zero_le _, Nat.le_trans (filledD_pend ss ps) (by decide)⟩
  · exact foldl_len 64 _ _ (fun _ => by simp [zeros]) (fun x hx => by obtain ⟨c, _, rfl⟩ := List.mem_map.1 hx; exact fullB_len c.s) i
  · obtain ⟨c, _, rfl⟩ := List.mem_map.1 hx
    exact ⟨pickN_lt c.a (by decide), fullB_len c.s⟩
theorem rot_ok {D : Dk} (h : D.Ok) (k p : Nat) (m : UInt8) : (D.rot k p m).Ok :=
  ⟨h.n1, h.n2, fun i => by
    show (if i = k then turnS (D.kept k) p m else D.kept i).length = 64
    split
    · rw [turnS_len]; exact h.kept k
    · exact h.kept i, h.pend, h.left, h.few⟩
theorem rot_there (D : Dk) (hp : D.pend = []) (k p : Nat) (m : UInt8) (i : Nat) : (D.rot k p m).there i = if i = k then turnS (D.there k) p m else D.there i := by
  rw [there_nil _ (show (D.rot k p m).pend = [] from hp), there_nil D hp, there_nil D hp]; rfl
theorem turnS_at {s : List UInt8} {p : Nat} (m : UInt8) (hp : p < s.length) (j : Nat) : (turnS s p m)[j]? = if j = p then (s[j]?).map (· ^^^ m) else s[j]? := by
  unfold turnS
  by_cases e : j = p
  · subst e
    rw [if_pos rfl, List.getElem?_set_self hp]
    simp [List.getD, List.getElem?_eq_getElem hp]
  · rw [if_neg e, List.getElem?_set_ne (fun q => e q.symm)]
theorem turnS_twice {s : List UInt8} {p : Nat} (m : UInt8) (hp : p < s.length) : turnS (turnS s p m) p m = s := by
  apply List.ext_getElem?
  intro j
  rw [turnS_at m (by rw [turnS_len]; exact hp), turnS_at m hp]
  by_cases e : j = p
  · subst e
    rw [if_pos rfl, if_pos rfl, List.getElem?_eq_getElem hp]
    simp [UInt8.xor_assoc]
  · rw [if_neg e, if_neg e]
/-- What a rot turns of all that is there. -/
theorem rot_all (D : Dk) (ho : D.Ok) (hp : D.pend = []) (k p : Nat) (hq : p < 64) (m : UInt8) (i : Nat) (hi : i < D.n * 64) : (D.rot k p m).all[i]? = if i = 64 * k + p then (D.all[i]?).map (· ^^^ m) else D.all[i]? := by
  have h1 : i / 64 < D.n := by omega
  have h2 : i % 64 < 64 := Nat.mod_lt _ (by decide)
  have h3 : i / 64 * 64 + i % 64 = i := by omega
  have e1 := all_at (D.rot k p m) (rot_ok ho k p m) (i / 64) (i % 64) h1 h2
  have e2 := all_at D ho (i / 64) (i % 64) h1 h2
  rw [h3] at e1 e2
  rw [e1, e2, rot_there D hp]
  by_cases ek : i / 64 = k
  · rw [if_pos ek, turnS_at m (by rw [ho.there_len]; exact hq)]
    by_cases ep : i % 64 = p
    · rw [if_pos ep, if_pos (by omega), ek]
    · rw [if_neg ep, if_neg (by omega), ek]
  · rw [if_neg ek, if_neg (by omega)]
theorem rotR_good (D : Dk) (k p m : Nat) (hk : k < D.n) (hp : p < 64) (hm : m < 256) : D.rotR (k : Int) (p : Int) (m : Int) = (D.rot k p (UInt8.ofNat m), 0) := by
  have : D.rotE (k : Int) (p : Int) (m : Int) = 0 := by unfold Dk.rotE; rw [if_pos (by omega), if_pos (by omega)]
  unfold Dk.rotR; rw [if_pos this]; rfl
theorem all_len (D : Dk) (ho : D.Ok) : D.all.length = D.n * 64 := flat_len D ho D.n
theorem strB_get (l : List UInt8) (i : Nat) (h : i < (strB l).size) : l[i]? = some ((strB l)[i]'h) := by
  have h' : i < l.length := by rw [strB_size] at h; exact h
  rw [List.getElem?_eq_getElem h']
  rfl

set_option maxRecDepth 100000 in
set_option maxHeartbeats 8000000 in
theorem rots_any (sv : Value) (ss : List CallD) (xa : Int) (a1 : -9223372036854775808 ≤ xa) (a2 : xa ≤ 9223372036854775807) (xp : Int) (p1 : -9223372036854775808 ≤ xp) (p2 : xp ≤ 9223372036854775807) (xm : Int) (m1 : -9223372036854775808 ≤ xm) (m2 : xm ≤ 9223372036854775807) (s : ByteArray) (hs64 : s.size ≤ 9223372036854775807)
    (w : World) (hs : CallsAt w sv ss) (hso : ∀ c ∈ ss, c.Ok) (hsl : ss.length ≤ 9223372036854775807) :
    Calls Try.prog 6 #[sv, .int .i64 xa, .int .i64 xp, .int .i64 xm, .string s] w fun e w' => e = .returned (.bool true) ∧ Below w.heap.size w w' := by
  have HS := Lib.hid (Had.mk hs hso hsl)
  clear hs hso hsl
  obtain ⟨D, hD⟩ : ∃ D, D = filledD ss [] := ⟨_, rfl⟩
  obtain ⟨k, hk⟩ : ∃ k, k = pickN xa 6 := ⟨_, rfl⟩
  obtain ⟨p, hp⟩ : ∃ p, p = pickN xp 64 := ⟨_, rfl⟩
  obtain ⟨m, hm⟩ : ∃ m, m = pickN xm 256 := ⟨_, rfl⟩
  have hk6 : k < 6 := by rw [hk]; exact pickN_lt xa (by decide)
  have hp64 : p < 64 := by rw [hp]; exact pickN_lt xp (by decide)
  have hm256 : m < 256 := by rw [hm]; exact pickN_lt xm (by decide)
  have hDo : D.Ok := by rw [hD]; exact filled_ok ss []
  have hDn : D.n = 6 := by rw [hD]; rfl
  have hDp : D.pend = [] := by rw [hD]; rfl
  have hb : (UInt8.ofNat m).toNat = m := by rw [UInt8.toNat_ofNat']; omega
  obtain ⟨b, hbb⟩ : ∃ b, b = UInt8.ofNat m := ⟨_, rfl⟩
  rw [← hbb] at hb
  obtain ⟨E, hE⟩ : ∃ E, E = D.rot k p b := ⟨_, rfl⟩
  have e1 : D.rotR (k : Int) (p : Int) (m : Int) = (E, 0) := by rw [hE, hbb]; exact rotR_good D k p m (by omega) hp64 hm256
  have hEo : E.Ok := by rw [hE]; exact rot_ok hDo k p b
  have hEn : E.n = 6 := by rw [hE]; exact hDn
  have hall : ∀ i, i < 384 → E.all[i]? = if i = 64 * k + p then (D.all[i]?).map (· ^^^ b) else D.all[i]? := fun i hi => by
    rw [hE]; exact rot_all D hDo hDp k p hp64 b i (by omega)
  have e2 : E.rotR (k : Int) (p : Int) (m : Int) = (E.rot k p b, 0) := by rw [hbb]; exact rotR_good E k p m (by omega) hp64 hm256
  have hEp : E.pend = [] := by rw [hE]; exact hDp
  have a3 : (E.rot k p b).all = D.all := by
    refine all_congr (by show E.n = D.n; omega) fun a => ?_
    rw [rot_there E hEp, hE]
    by_cases e : a = k
    · subst e
      rw [if_pos rfl, rot_there D hDp, if_pos rfl, turnS_twice b (by rw [hDo.there_len]; exact hp64)]
    · rw [if_neg e, rot_there D hDp, if_neg e]
  have lD : D.all.length = 384 := by rw [all_len D hDo, hDn]
  have lE : E.all.length = 384 := by rw [all_len E hEo, hEn]
  have HF := Lib.hid (And.intro e1 (And.intro e2 (And.intro a3 (And.intro hall (And.intro lD (And.intro lE (And.intro hb (And.intro hD (And.intro hk (And.intro hp hm))))))))))
  have hDK : ∃ K, D = ⟨6, K, [], false, 0⟩ := ⟨_, by rw [hD]; rfl⟩
  have HDK := Lib.hid hDK
  clear e1 e2 a3 hall lD lE hb hbb hD hk hp hm hEo hEn hEp hDn hDp hE hDK
  go_enter Try.func6, Try.ntmps6
  go_wp2_with fail
  refine (St.awake w).mono ?_
  rintro e w1 ⟨rfl, hT⟩
  have T1 := Lib.hid hT; clear hT
  go_wp2_with fail
  refine (T1.out.filled HS.out (Had.nil w)).mono ?_
  rintro e w2 ⟨dp, rfl, hT⟩
  have T2 := Lib.hid (show St w w2 [(dp, D)] from HF.out.2.2.2.2.2.2.2.1 ▸ hT); clear hT T1
  go_wp2_with fail
  refine (T2.out.filled HS.out (Had.nil w)).mono ?_
  rintro e w3 ⟨dq, rfl, hT⟩
  have T3 := Lib.hid (show St w w3 [(dp, D), (dq, D)] from HF.out.2.2.2.2.2.2.2.1 ▸ hT); clear hT T2
  go_wp2_with fail
  refine (T3.out.all 0 rfl).mono ?_
  rintro e w4 ⟨rfl, hT⟩
  have T4 := Lib.hid hT; clear hT T3
  go_wp2_with fail
  refine (pick_any xa a1 a2 6 (by decide) (by decide) _).mono ?_
  rw [← HF.out.2.2.2.2.2.2.2.2.1]
  rintro e w4' ⟨rfl, rfl⟩
  go_wp2_with fail
  refine (pick_any xp p1 p2 64 (by decide) (by decide) _).mono ?_
  rw [← HF.out.2.2.2.2.2.2.2.2.2.1]
  rintro e w4' ⟨rfl, rfl⟩
  go_wp2_with fail
  refine (pick_any xm m1 m2 256 (by decide) (by decide) _).mono ?_
  rw [← HF.out.2.2.2.2.2.2.2.2.2.2]
  rintro e w4' ⟨rfl, rfl⟩
  go_wp2_with fail
  refine (T4.out.rot 0 rfl (by omega) HF.out.1 (L' := [(dp, E), (dq, D)]) rfl).mono ?_
  rintro e w5 ⟨rfl, hT⟩
  have T5 := Lib.hid hT; clear hT T4
  go_wp2_with fail
  refine (T5.out.all 0 rfl).mono ?_
  rintro e w6 ⟨rfl, hT⟩
  have T6 := Lib.hid hT; clear hT T5
  obtain ⟨X, hX⟩ : ∃ X, X = strB D.all := ⟨_, rfl⟩
  obtain ⟨Y, hY⟩ : ∃ Y, Y = strB E.all := ⟨_, rfl⟩
  have lX : X.size = 384 := by rw [hX, strB_size]; exact HF.out.2.2.2.2.1
  have lY : Y.size = 384 := by rw [hY, strB_size]; exact HF.out.2.2.2.2.2.1
  have hXY : ∀ i (h1 : i < X.size) (h2 : i < Y.size), Y[i] = if i = 64 * k + p then X[i] ^^^ b else X[i] := by
    intro i h1 h2
    subst hX hY
    have e1 := HF.out.2.2.2.1 i (by omega)
    rw [strB_get _ _ h1, strB_get _ _ h2] at e1
    split at e1
    · rename_i e; rw [if_pos e]; exact Option.some.inj e1
    · rename_i e; rw [if_neg e]; exact Option.some.inj e1
  have HXY := Lib.hid hXY
  have HX := Lib.hid hX
  rw [← hX, ← hY]
  have lXi : (X.size : Int) = 384 := by omega
  have lYi : (Y.size : Int) = 384 := by omega
  clear hXY hX hY
  go_wp2
  go_loopw [20] (fun i wr => ∃ j : Nat, i = .int .i64 j ∧ j ≤ 384 ∧ St w wr [(dp, E), (dq, D)]) (fun i _ => 384 - (intOf i).toNat)
  case atStart => exact ⟨0, rfl, by omega, T6.out⟩
  case round =>
    obtain ⟨i, rfl, hi, hT⟩ := hrel
    have HT := Lib.hid hT; clear hT
    by_cases hlt : i < 384
    · have h1 : i < X.size := by omega
      have h2 : i < Y.size := by omega
      have hxy := HXY.out i h1 h2
      have w1 : IntKind.i64.wrap (64 * (k : Int)) = 64 * (k : Int) := by rw [IntKind.wrap_i64]; omega
      have w2 : IntKind.i64.wrap (64 * (k : Int) + (p : Int)) = 64 * (k : Int) + (p : Int) := by rw [IntKind.wrap_i64]; omega
      by_cases hq : i = 64 * k + p
      · rw [if_pos hq] at hxy
        have hbx := u8_xor_nat2 (X[i]'h1) b
        rw [HF.out.2.2.2.2.2.2.1, ← hxy] at hbx
        have hwm : IntKind.u8.wrap (m : Int) = (m : Int) := by rw [IntKind.wrap_u8]; omega
        have c1 : ((i : Int) != 64 * (k : Int) + (p : Int)) = false := by rw [bne_eq_false_iff_eq]; omega
        have c2 : ((i : Int) == 64 * (k : Int) + (p : Int)) = true := by rw [beq_iff_eq]; omega
        have HXY2 := Lib.hid hxy
        clear hxy hq
        go_wp2
        go_quiet (fail)
        go_wp2
        go_roundw
        case rel => exact ⟨i + 1, by go_num, by omega, HT.out.grow ⟨rfl, rfl, rfl, Nat.le_refl _, fun _ _ => rfl⟩⟩
        case measure => simp [intOf]; omega
      · rw [if_neg hq] at hxy
        have hval : (Y[i]'h2).toNat = (X[i]'h1).toNat := by rw [hxy]
        have c1 : ((i : Int) != 64 * (k : Int) + (p : Int)) = true := by rw [bne_iff_ne]; omega
        have c2 : ((i : Int) == 64 * (k : Int) + (p : Int)) = false := by rw [beq_eq_false_iff_ne]; omega
        have HXY2 := Lib.hid hxy
        clear hxy hq
        go_wp2
        go_quiet (fail)
        go_wp2
        go_roundw
        case rel => exact ⟨i + 1, by go_num, by omega, HT.out.grow ⟨rfl, rfl, rfl, Nat.le_refl _, fun _ _ => rfl⟩⟩
        case measure => simp [intOf]; omega
    · obtain rfl : i = 384 := by omega
      clear lX lY
      have hts : ∀ x, (strB x).toList = x := strB_list
      obtain ⟨K, hK⟩ := HDK.out
      have hw := write_good 6 K [] k hk6 (fullB s) (fullB_len s)
      rw [← hK] at hw
      obtain ⟨C1, hC1⟩ : ∃ C1 : Dk, C1 = ⟨6, K, [] ++ [(k, fullB s)], false, 0⟩ := ⟨_, rfl⟩
      rw [← hC1] at hw
      have hf1 : D.pend.length < 1000 := by rw [hK]; show (0 : Nat) < 1000; decide
      have e4 : C1.rotR (k : Int) (p : Int) (m : Int) = (C1.rot k p (UInt8.ofNat m), 0) := rotR_good C1 k p m (by rw [hC1]; exact hk6) hp64 hm256
      obtain ⟨C2, hC2⟩ : ∃ C2, C2 = C1.rot k p (UInt8.ofNat m) := ⟨_, rfl⟩
      rw [← hC2] at e4
      have p2 : C2.pend = [(k, fullB s)] := by rw [hC2, hC1]; rfl
      have n2 : C2.n = 6 := by rw [hC2, hC1]; rfl
      have e5 : C2.read (k : Int) = (strB (fullB s), 0) := read_good C2 k (by omega) (by
        unfold Dk.there; rw [p2]
        show layK _ (k, fullB s) k = _
        unfold layK; rw [if_pos rfl])
      have e6 : C2.crashE [0] = (C2.crash [0], 0) := crashE_good C2 [0] 1 (by rw [p2]; rfl) (by decide)
      obtain ⟨C3, hC3⟩ : ∃ C3, C3 = C2.crash [0] := ⟨_, rfl⟩
      have e7 : C3.read (k : Int) = (strB (fullB s), 0) := read_good C3 k (by rw [hC3]; show k < C2.n; omega) (by
        rw [hC3, there_nil _ rfl]
        show (C2.picked [0]).foldl layK C2.kept k = _
        have : C2.picked [0] = [(k, fullB s)] := by unfold Dk.picked; rw [p2]; rfl
        rw [this]
        show layK _ (k, fullB s) k = _
        unfold layK; rw [if_pos rfl])
      rw [← hC3] at e6
      obtain ⟨E2, hE2⟩ : ∃ X, X = E.rot k p b := ⟨_, rfl⟩
      have e2 := HF.out.2.1
      have e3 := HF.out.2.2.1
      rw [← hE2] at e2 e3
      have HG := Lib.hid (And.intro e2 (And.intro e3 (And.intro hw (And.intro hf1 (And.intro e4 (And.intro e5 (And.intro e6 e7)))))))
      clear e2 e3 hw hf1 e4 e5 e6 e7 hC1 hC2 hC3 hE2 hK p2 n2
      go_wp2_with fail
      refine (HT.out.rot 0 rfl (by omega) HG.out.1 (L' := [(dp, E2), (dq, D)]) rfl).mono ?_
      rintro e x1 ⟨rfl, hT⟩
      have U1 := Lib.hid hT; clear hT HT
      go_wp2_with fail
      refine (U1.out.full s hs64).mono ?_
      rintro e x2 ⟨rfl, hT⟩
      have U2 := Lib.hid hT; clear hT U1
      go_wp2_with fail
      refine (U2.out.write 1 rfl HG.out.2.2.2.1 (by omega) HG.out.2.2.1 (L' := [(dp, E2), (dq, C1)]) rfl).mono ?_
      rintro e x3 ⟨rfl, hT⟩
      have U3 := Lib.hid hT; clear hT U2
      go_wp2_with fail
      refine (U3.out.rot 1 rfl (by omega) HG.out.2.2.2.2.1 (L' := [(dp, E2), (dq, C2)]) rfl).mono ?_
      rintro e x4 ⟨rfl, hT⟩
      have U4 := Lib.hid hT; clear hT U3
      go_wp2_with fail
      refine (U4.out.read 1 rfl (by omega) HG.out.2.2.2.2.2.1).mono ?_
      rintro e x5 ⟨rfl, hT⟩
      have U5 := Lib.hid hT; clear hT U4
      go_wp2_with fail
      refine (U5.out.crashLit 1 rfl [0] (by decide) (by simp) (n := 1) rfl rfl HG.out.2.2.2.2.2.2.1 (L' := [(dp, E2), (dq, C3)]) rfl).mono ?_
      rintro e x6 ⟨rfl, hT⟩
      have U6 := Lib.hid hT; clear hT U5
      go_wp2_with fail
      refine (U6.out.read 1 rfl (by omega) HG.out.2.2.2.2.2.2.2).mono ?_
      rintro e x7 ⟨rfl, hT⟩
      have U7 := Lib.hid hT; clear hT U6
      go_wp2_with fail
      refine (U7.out.all 0 rfl).mono ?_
      rw [HG.out.2.1, ← HX.out]
      rintro e x8 ⟨rfl, hT⟩
      have U8 := Lib.hid hT; clear hT U7
      go_wp2_with fail
      refine (U8.out.full s hs64).mono ?_
      rintro e x9 ⟨rfl, hT⟩
      have U9 := Lib.hid hT; clear hT U8
      go_wp2
      go_ret
      exact ⟨rfl, U9.out.2⟩
end Go.Proofs.Ythmpdnndfgmmfaa.Disk
