/- Layer 2's law DiskCut: the walk. -/
import Derived.Test.YthmpdnndfgmmfaaLawSt
namespace Go.Proofs.Ythmpdnndfgmmfaa.Disk
open Go.RowKit

attribute [local go_sem] Oper.semAt_some

theorem write_cut (n : Nat) (K : Nat → List UInt8) (l : List (Nat × List UInt8)) (q : Nat) (a : Nat) (ha : a < n) (t : List UInt8) (ht : t.length = 64) : (Dk.mk n K l true (q + 1)).write (a : Int) (strB t) = (⟨n, K, l ++ [(a, t)], true, q⟩, 0) := by
  have hk : okWrite (Dk.mk n K l true (q + 1)) (a : Int) (strB t) = true := by
    refine decide_eq_true ⟨by omega, by show (a : Int) < (n : Int); omega, ?_⟩
    rw [strB_size, ht]
  unfold Dk.write
  rw [if_pos hk, if_pos (show (Dk.mk n K l true (q + 1)).powered = true from by simp [Dk.powered])]
  unfold Dk.wrote Dk.spent strB
  simp
theorem write_dark0 (n : Nat) (K : Nat → List UInt8) (l : List (Nat × List UInt8)) (a : Nat) (ha : a < n) (t : List UInt8) (ht : t.length = 64) : (Dk.mk n K l true 0).write (a : Int) (strB t) = (⟨n, K, l, true, 0⟩, 22) :=
  write_dark _ _ _ ⟨by omega, by show (a : Int) < (n : Int); omega, by rw [strB_size, ht]⟩ rfl
theorem ints_then {w w' : World} {A : Nat → Prop} {L : List (Nat × Dk)} {v : Value} {xs : List Int} (h : IntsAt w v xs) (hA : ∀ b, v.ownBlock = some b → A b) (t : Then w w' A L) : IntsAt w' v xs := by
  rcases h with h | ⟨b, o, cap, h1, h2, h3, h4⟩
  · exact .inl h
  · exact .inr ⟨b, o, cap, h1, Nat.lt_of_lt_of_le h2 t.2.size, h3, fun j x hx => t.cell (hA b (by rw [h1]; rfl)) (h4 j x hx)⟩

theorem write_goodL (n : Nat) (K : Nat → List UInt8) (l : List (Nat × List UInt8)) (q : Nat) (a : Nat) (ha : a < n) (t : List UInt8) (ht : t.length = 64) : (Dk.mk n K l false q).write (a : Int) (strB t) = (⟨n, K, l ++ [(a, t)], false, q⟩, 0) := by
  have hk : okWrite (Dk.mk n K l false q) (a : Int) (strB t) = true := by
    refine decide_eq_true ⟨by omega, by show (a : Int) < (n : Int); omega, ?_⟩
    rw [strB_size, ht]
  unfold Dk.write
  rw [if_pos hk, if_pos (show (Dk.mk n K l false q).powered = true from rfl)]
  unfold Dk.wrote Dk.spent strB
  simp
theorem sync_cut (n : Nat) (K : Nat → List UInt8) (l : List (Nat × List UInt8)) (q : Nat) : (Dk.mk n K l true (q + 1)).syncE = (⟨n, l.foldl layK K, [], true, q⟩, 0) := by
  rw [syncE_good _ (by simp [Dk.powered])]
  unfold Dk.sync Dk.spent
  simp
theorem sync_dark (n : Nat) (K : Nat → List UInt8) (l : List (Nat × List UInt8)) : (Dk.mk n K l true 0).syncE = (⟨n, K, l, true, 0⟩, 22) := syncE_off _ rfl
theorem sync_plain (n : Nat) (K : Nat → List UInt8) (l : List (Nat × List UInt8)) : (Dk.mk n K l false 0).syncE = (⟨n, l.foldl layK K, [], false, 0⟩, 0) := syncE_good _ rfl

/-- The two disks of the law, as far as it has come. -/
def cutD (K : Nat → List UInt8) (P : List (Nat × List UInt8)) (l : Nat) : Dk := ⟨6, K, P, true, l⟩
def cutC (K : Nat → List UInt8) (P : List (Nat × List UInt8)) : Dk := ⟨6, K, P, false, 0⟩

set_option maxRecDepth 100000 in
set_option maxHeartbeats 16000000 in
theorem cutlaw_any (sv : Value) (ss : List CallD) (pv : Value) (ps : List CallD) (x : Int) (x1 : -9223372036854775808 ≤ x) (x2 : x ≤ 9223372036854775807) (kv : Value) (ks : List Int) (w : World) (hs : CallsAt w sv ss) (hso : ∀ c ∈ ss, c.Ok) (hsl : ss.length ≤ 9223372036854775807)
    (hp : CallsAt w pv ps) (hpo : ∀ c ∈ ps, c.Ok) (hpl : ps.length ≤ 9223372036854775807) (hk : IntsAt w kv ks) (hko : ∀ x ∈ ks, -9223372036854775808 ≤ x ∧ x ≤ 9223372036854775807) (hkl : ks.length ≤ 9223372036854775807) :
    Calls Try.prog 7 #[sv, pv, .int .i64 x, kv] w fun e w' => e = .returned (.bool true) ∧ Below w.heap.size w w' := by
  obtain ⟨po, pcap, rfl⟩ := hp.val
  have HS := Lib.hid (Had.mk hs hso hsl)
  have HP := Lib.hid (And.intro hp hpo)
  have HK := Lib.hid (And.intro hk hko)
  clear hs hso hsl hp hpo hk hko
  obtain ⟨k, hkk⟩ : ∃ k, k = pickN x 10 := ⟨_, rfl⟩
  have hk10 : k < 10 := by rw [hkk]; exact pickN_lt x (by decide)
  obtain ⟨m, hm⟩ : ∃ m, m = min ps.length 8 := ⟨_, rfl⟩
  have hm8 : m ≤ 8 := by omega
  have hml : m ≤ ps.length := by omega
  obtain ⟨K, hK⟩ : ∃ K, filledD ss [] = cutC K [] := ⟨_, rfl⟩
  have HF := Lib.hid (And.intro hkk (And.intro hm hK))
  clear hkk hm hK
  go_enter Try.func7, Try.ntmps7
  go_wp2_with fail
  refine (St.awake w).mono ?_
  rintro e w1 ⟨rfl, hT⟩
  have T1 := Lib.hid hT; clear hT
  go_wp2_with fail
  refine (T1.out.filled HS.out (Had.nil w)).mono ?_
  rw [HF.out.2.2]
  rintro e w2 ⟨p, rfl, hT⟩
  have T2 := Lib.hid (show St w w2 [(p, cutC K [])] from hT); clear hT T1
  go_wp2_with fail
  refine (T2.out.filled HS.out (Had.nil w)).mono ?_
  rw [HF.out.2.2]
  rintro e w3 ⟨q, rfl, hT⟩
  have T3 := Lib.hid (show St w w3 [(p, cutC K []), (q, cutC K [])] from hT); clear hT T2
  go_wp2_with fail
  refine (pick_any x x1 x2 10 (by decide) (by decide) _).mono ?_
  rw [← HF.out.1]
  rintro e w3' ⟨rfl, rfl⟩
  go_wp2_with fail
  refine (T3.out.cut 0 rfl (n := (k : Int)) (by omega) (D' := cutD K [] k) (r := 0) (by unfold Dk.cutE; rw [if_neg (by omega)]; rfl) (L' := [(p, cutD K [] k), (q, cutC K [])]) rfl).mono ?_
  rintro e w4 ⟨rfl, hT⟩
  have T4 := Lib.hid hT; clear hT T3
  go_upto_region 6 with fail
  go_cut [14] from 32 (fun v wc => v = .int .i64 (m : Int) ∧ wc = w4)
  case first =>
    go_wp2
    all_goals go_meet
    all_goals refine ⟨?_, rfl⟩
    all_goals (have := HF.out.2.1; congr 1; omega)
  case rest =>
    obtain ⟨rfl, rfl⟩ := hcut
    go_wp2
    go_loopw [15] (fun i wr => ∃ j : Nat, i = .int .i64 j ∧ j ≤ m ∧ St w wr [(p, cutD K ((ps.take (min j k)).map wrOf) (k - j)), (q, cutC K ((ps.take (min j k)).map wrOf))]) (fun i _ => m - (intOf i).toNat)
    case atStart => exact ⟨0, rfl, by omega, by simpa using T4.out⟩
    case round =>
      obtain ⟨i, rfl, hi, hT⟩ := hrel
      have HT := Lib.hid hT; clear hT
      by_cases hlt : i < m
      · obtain ⟨c, hc⟩ : ∃ c, ps[i]? = some c := ⟨_, List.getElem?_eq_getElem (by omega)⟩
        obtain ⟨b, off, rfl, hbl, hcap, hc1, hc2⟩ := HP.out.1.at hc
        have hok := HP.out.2 c (List.mem_of_getElem? hc)
        have c1 := (HT.out.2.cell (p := ⟨b, off + i * 6 + 1, none⟩) hbl).trans hc1
        have c2 := (HT.out.2.cell (p := ⟨b, off + i * 6 + 2, none⟩) hbl).trans hc2
        have a1 := hok.a1
        have a2 := hok.a2
        have hs2 := hok.s
        have i1 : (0 : Int) ≤ (i : Int) := by omega
        have i2 : (i : Int) < (ps.length : Int) := by omega
        have h6 := pickN_lt c.a (n := 6) (by decide)
        have HC := Lib.hid hc
        have hfew : ((ps.take (min i k)).map wrOf).length < 1000 := by simp; omega
        have HFW := Lib.hid hfew
        have HC1 := Lib.hid hc2
        clear hc hc1 hc2 hok hfew
        go_wp2_with fail
        refine (pick_any c.a a1 a2 6 (by decide) (by decide) _).mono ?_
        rintro e _ ⟨rfl, rfl⟩
        go_wp2_with fail
        refine (HT.out.full c.s hs2).mono ?_
        rintro e w5 ⟨rfl, hT⟩
        have T5 := Lib.hid hT; clear hT HT
        by_cases hik : i < k
        · have hkk3 : k - i = (k - (i + 1)) + 1 := by omega
          have hmin : min i k = i := by omega
          have hmin2 : min (i + 1) k = i + 1 := by omega
          have T5' := T5.out
          rw [hkk3, hmin] at T5'
          have HFW2 := HFW.out
          rw [hmin] at HFW2
          have T5'' := Lib.hid (And.intro T5' HFW2)
          clear T5' T5 HFW HFW2 hmin
          have hap : ((ps.take i).map wrOf) ++ [(pickN c.a 6, fullB c.s)] = (ps.take (i + 1)).map wrOf := by rw [take_snoc HC.out, List.map_append]; rfl
          have HAP := Lib.hid (And.intro hap hmin2)
          clear hap hmin2 hkk3
          go_wp2_with fail
          refine (T5''.out.1.write 0 rfl T5''.out.2 (by omega) (write_cut 6 K ((ps.take i).map wrOf) (k - (i + 1)) (pickN c.a 6) h6 (fullB c.s) (fullB_len c.s)) (L' := [(p, cutD K ((ps.take (i + 1)).map wrOf) (k - (i + 1))), (q, cutC K ((ps.take i).map wrOf))]) (by rw [← HAP.out.1]; rfl)).mono ?_
          rintro e w6 ⟨rfl, hT⟩
          have T6 := Lib.hid hT; clear hT
          have c2' := (T6.out.2.cell (p := ⟨b, off + i * 6 + 2, none⟩) hbl).trans HC1.out
          have hlt2 : (i : Int) < (k : Int) := by omega
          clear hik
          go_wp2_with fail
          refine (T6.out.full c.s hs2).mono ?_
          rintro e w7 ⟨rfl, hT⟩
          have T7 := Lib.hid hT; clear hT T6
          go_wp2_with fail
          refine (T7.out.write 1 rfl T5''.out.2 (by omega) (write_good 6 K ((ps.take i).map wrOf) (pickN c.a 6) h6 (fullB c.s) (fullB_len c.s)) (L' := [(p, cutD K ((ps.take (i + 1)).map wrOf) (k - (i + 1))), (q, cutC K ((ps.take (i + 1)).map wrOf))]) (by rw [← HAP.out.1]; rfl)).mono ?_
          rintro e w8 ⟨rfl, hT⟩
          have T8 := Lib.hid hT; clear hT T7
          go_wp2
          go_roundw
          case rel => exact ⟨i + 1, by go_num, by omega, by rw [HAP.out.2]; exact T8.out⟩
          case measure => simp [intOf]; omega
        · have hkk3 : k - i = 0 := by omega
          have hmin : min i k = k := by omega
          have hmin2 : min (i + 1) k = k := by omega
          have T5' := T5.out
          rw [hkk3, hmin] at T5'
          have HFW2 := HFW.out
          rw [hmin] at HFW2
          have T5'' := Lib.hid (And.intro T5' (And.intro HFW2 hmin2))
          clear T5' T5 HFW HFW2 hmin hmin2 hkk3
          have hlt2 : ¬ (i : Int) < (k : Int) := by omega
          go_wp2_with fail
          refine (T5''.out.1.write 0 rfl T5''.out.2.1 (by omega) (write_dark0 6 K ((ps.take k).map wrOf) (pickN c.a 6) h6 (fullB c.s) (fullB_len c.s)) (L' := [(p, cutD K ((ps.take k).map wrOf) 0), (q, cutC K ((ps.take k).map wrOf))]) rfl).mono ?_
          rintro e w6 ⟨rfl, hT⟩
          have T6 := Lib.hid hT; clear hT
          have HIK := Lib.hid hik
          clear hik
          go_wp2
          go_roundw
          case rel => exact ⟨i + 1, by go_num, by omega, by rw [T5''.out.2.2, show k - (i + 1) = 0 by have := HIK.out; omega]; exact T6.out⟩
          case measure => simp [intOf]; omega
      · obtain rfl : i = m := by omega
        obtain ⟨P, hP⟩ : ∃ P, P = (ps.take (min i k)).map wrOf := ⟨_, rfl⟩
        have hPl : P.length ≤ 8 := by rw [hP]; simp; omega
        rw [← hP] at HT
        clear hP
        by_cases hmk : i < k
        · obtain ⟨r, hr⟩ : ∃ r, k - i = r + 1 := ⟨k - i - 1, by omega⟩
          rw [hr] at HT
          have hlt2 : (i : Int) < (k : Int) := by omega
          clear hmk hr
          go_wp2_with fail
          refine (HT.out.sync 0 rfl (sync_cut 6 K P r) (L' := [(p, cutD (P.foldl layK K) [] r), (q, cutC K P)]) rfl).mono ?_
          rintro e w5 ⟨rfl, hT⟩
          have T5 := Lib.hid hT; clear hT HT
          go_wp2_with fail
          refine (T5.out.sync 1 rfl (sync_plain 6 K P) (L' := [(p, cutD (P.foldl layK K) [] r), (q, cutC (P.foldl layK K) [])]) rfl).mono ?_
          rintro e w6 ⟨rfl, hT⟩
          obtain ⟨K', P', l', W, hT, hP', hW⟩ : ∃ K' P' l' W, St w W [(p, cutD K' P' l'), (q, cutC K' P')] ∧ P'.length ≤ 8 ∧ W = w6 := ⟨_, _, _, _, hT, by simp, rfl⟩
          have TT := Lib.hid hT
          rw [← hW]
          clear hT hW T5 hPl hlt2
          go_upto_region 21 with fail
          have hts : ∀ x, (strB x).toList = x := strB_list
          have hok := okKeep_keepN ks P'.length
          obtain ⟨kk, hkk⟩ : ∃ kk, kk = keepN ks P'.length := ⟨_, rfl⟩
          have hkn := keepN_lt ks P'.length
          have hkl2 := keepN_len ks P'.length
          rw [← hkk] at hok hkn hkl2
          obtain ⟨K2, hK2⟩ : ∃ K2, K2 = ((cutC K' P').picked (intsOf kk)).foldl layK K' := ⟨_, rfl⟩
          have e1 : (cutD K' P' l').crashE (intsOf kk) = (⟨6, K2, [], false, l'⟩, 0) := by rw [crashE_good _ _ P'.length rfl hok, hK2]; rfl
          have e2 : (cutC K' P').crashE (intsOf kk) = (⟨6, K2, [], false, 0⟩, 0) := by rw [crashE_good _ _ P'.length rfl hok, hK2]; rfl
          have E := Lib.hid (And.intro e1 (And.intro e2 (And.intro hkk (And.intro hkn hkl2))))
          clear e1 e2 hkk hkn hkl2 hok hK2
          go_wp2_with fail
          refine (TT.out.all 0 rfl).mono ?_
          rintro e y1 ⟨rfl, hT⟩
          have U1 := Lib.hid hT; clear hT TT
          rw [show (cutD K' P' l').all = (cutC K' P').all from rfl]
          go_wp2_with fail
          refine (U1.out.all 1 rfl).mono ?_
          rintro e y2 ⟨rfl, hT⟩
          have U2 := Lib.hid hT; clear hT U1
          go_wp2_with fail
          refine (U2.out.pending 0 rfl).mono ?_
          rintro e _ ⟨rfl, rfl⟩
          rw [show ((cutD K' P' l').pend.length : Int) = (P'.length : Int) from rfl]
          go_wp2_with fail
          refine (U2.out.pending 1 rfl).mono ?_
          rintro e _ ⟨rfl, rfl⟩
          rw [show ((cutC K' P').pend.length : Int) = (P'.length : Int) from rfl]
          go_wp2_with fail
          refine (U2.out.pending 1 rfl).mono ?_
          rintro e _ ⟨rfl, rfl⟩
          rw [show ((cutC K' P').pend.length : Int) = (P'.length : Int) from rfl]
          go_wp2_with fail
          refine (U2.out.keep HK.out.1 HK.out.2 hkl P'.length (by omega)).mono ?_
          rw [← E.out.2.2.1]
          rintro e y3 ⟨v', rfl, hI, hIb, hB⟩
          have HW := Lib.hid (U2.out.1.widen hB)
          have HI := Lib.hid (And.intro hI hIb)
          have HB := Lib.hid (U2.out.2.trans (hB.mono U2.out.2.size))
          clear hI hIb hB U2
          go_wp2_with fail
          refine (crash_as HW.out 0 rfl (intsOf kk) (by rw [intsOf_len]; have := E.out.2.2.2.2; omega) (intsOf_bounds kk fun j hj => by have := E.out.2.2.2.1 j hj; omega) HI.out.1 (fun b hb => Or.inr (HI.out.2 b hb)) E.out.1 (L' := [(p, ⟨6, K2, [], false, l'⟩), (q, cutC K' P')]) rfl).mono ?_
          rintro e y4 ⟨rfl, hT⟩
          have V1 := Lib.hid hT; clear hT
          go_wp2_with fail
          refine (crash_as V1.out.1 1 rfl (intsOf kk) (by rw [intsOf_len]; have := E.out.2.2.2.2; omega) (intsOf_bounds kk fun j hj => by have := E.out.2.2.2.1 j hj; omega) (ints_then HI.out.1 (fun b hb => Or.inr (HI.out.2 b hb)) V1.out) (fun b hb => Or.inr (HI.out.2 b hb)) E.out.2.1 (L' := [(p, ⟨6, K2, [], false, l'⟩), (q, ⟨6, K2, [], false, 0⟩)]) rfl).mono ?_
          rintro e y5 ⟨rfl, hT⟩
          have hT2 := (V1.out.trans hT).mono (B := fun j => j < w.heap.size) (fun j hj => Or.inl hj)
          have V2 := Lib.hid (show St w y5 [(p, ⟨6, K2, [], false, l'⟩), (q, ⟨6, K2, [], false, 0⟩)] from ⟨hT2.1, HB.out.trans (hT2.2.below (fun j hj => by omega) HB.out.size)⟩)
          clear hT hT2 V1 HI HW HB
          go_wp2_with fail
          refine (V2.out.all 0 rfl).mono ?_
          rintro e y6 ⟨rfl, hT⟩
          have V3 := Lib.hid hT; clear hT V2
          rw [show (Dk.mk 6 K2 [] false l').all = (Dk.mk 6 K2 [] false 0).all from rfl]
          go_wp2_with fail
          refine (V3.out.all 1 rfl).mono ?_
          rintro e y7 ⟨rfl, hT⟩
          have V4 := Lib.hid hT; clear hT V3
          go_wp2_with fail
          refine (V4.out.full ⟨#[122]⟩ (by decide)).mono ?_
          rintro e y8 ⟨rfl, hT⟩
          have V5 := Lib.hid hT; clear hT V4
          go_wp2_with fail
          refine (V5.out.write 0 rfl (by decide : ([] : List (Nat × List UInt8)).length < 1000) (by decide) (write_goodL 6 K2 [] l' 0 (by decide) (fullB ⟨#[122]⟩) (fullB_len _)) (L' := [(p, ⟨6, K2, [(0, fullB ⟨#[122]⟩)], false, l'⟩), (q, ⟨6, K2, [], false, 0⟩)]) rfl).mono ?_
          rintro e y9 ⟨rfl, hT⟩
          have V6 := Lib.hid hT; clear hT V5
          go_wp2_with fail
          refine (V6.out.sync 0 rfl (syncE_good _ rfl) rfl).mono ?_
          rintro e y10 ⟨rfl, hT⟩
          have V7 := Lib.hid hT.2; clear hT V6
          go_wp2
          go_ret
          exact ⟨rfl, V7.out⟩
        · have hr : k - i = 0 := by omega
          rw [hr] at HT
          have hlt2 : ¬ (i : Int) < (k : Int) := by omega
          clear hmk hr
          go_wp2_with fail
          refine (HT.out.sync 0 rfl (sync_dark 6 K P) (L' := [(p, cutD K P 0), (q, cutC K P)]) rfl).mono ?_
          rintro e w6 ⟨rfl, hT⟩
          obtain ⟨K', P', l', W, hT, hP', hW⟩ : ∃ K' P' l' W, St w W [(p, cutD K' P' l'), (q, cutC K' P')] ∧ P'.length ≤ 8 ∧ W = w6 := ⟨_, _, _, _, hT, hPl, rfl⟩
          have TT := Lib.hid hT
          rw [← hW]
          clear hT hW HT hPl
          go_upto_region 21 with fail
          clear hlt2
          have hts : ∀ x, (strB x).toList = x := strB_list
          have hok := okKeep_keepN ks P'.length
          obtain ⟨kk, hkk⟩ : ∃ kk, kk = keepN ks P'.length := ⟨_, rfl⟩
          have hkn := keepN_lt ks P'.length
          have hkl2 := keepN_len ks P'.length
          rw [← hkk] at hok hkn hkl2
          obtain ⟨K2, hK2⟩ : ∃ K2, K2 = ((cutC K' P').picked (intsOf kk)).foldl layK K' := ⟨_, rfl⟩
          have e1 : (cutD K' P' l').crashE (intsOf kk) = (⟨6, K2, [], false, l'⟩, 0) := by rw [crashE_good _ _ P'.length rfl hok, hK2]; rfl
          have e2 : (cutC K' P').crashE (intsOf kk) = (⟨6, K2, [], false, 0⟩, 0) := by rw [crashE_good _ _ P'.length rfl hok, hK2]; rfl
          have E := Lib.hid (And.intro e1 (And.intro e2 (And.intro hkk (And.intro hkn hkl2))))
          clear e1 e2 hkk hkn hkl2 hok hK2
          go_wp2_with fail
          refine (TT.out.all 0 rfl).mono ?_
          rintro e y1 ⟨rfl, hT⟩
          have U1 := Lib.hid hT; clear hT TT
          rw [show (cutD K' P' l').all = (cutC K' P').all from rfl]
          go_wp2_with fail
          refine (U1.out.all 1 rfl).mono ?_
          rintro e y2 ⟨rfl, hT⟩
          have U2 := Lib.hid hT; clear hT U1
          go_wp2_with fail
          refine (U2.out.pending 0 rfl).mono ?_
          rintro e _ ⟨rfl, rfl⟩
          rw [show ((cutD K' P' l').pend.length : Int) = (P'.length : Int) from rfl]
          go_wp2_with fail
          refine (U2.out.pending 1 rfl).mono ?_
          rintro e _ ⟨rfl, rfl⟩
          rw [show ((cutC K' P').pend.length : Int) = (P'.length : Int) from rfl]
          go_wp2_with fail
          refine (U2.out.pending 1 rfl).mono ?_
          rintro e _ ⟨rfl, rfl⟩
          rw [show ((cutC K' P').pend.length : Int) = (P'.length : Int) from rfl]
          go_wp2_with fail
          refine (U2.out.keep HK.out.1 HK.out.2 hkl P'.length (by omega)).mono ?_
          rw [← E.out.2.2.1]
          rintro e y3 ⟨v', rfl, hI, hIb, hB⟩
          have HW := Lib.hid (U2.out.1.widen hB)
          have HI := Lib.hid (And.intro hI hIb)
          have HB := Lib.hid (U2.out.2.trans (hB.mono U2.out.2.size))
          clear hI hIb hB U2
          go_wp2_with fail
          refine (crash_as HW.out 0 rfl (intsOf kk) (by rw [intsOf_len]; have := E.out.2.2.2.2; omega) (intsOf_bounds kk fun j hj => by have := E.out.2.2.2.1 j hj; omega) HI.out.1 (fun b hb => Or.inr (HI.out.2 b hb)) E.out.1 (L' := [(p, ⟨6, K2, [], false, l'⟩), (q, cutC K' P')]) rfl).mono ?_
          rintro e y4 ⟨rfl, hT⟩
          have V1 := Lib.hid hT; clear hT
          go_wp2_with fail
          refine (crash_as V1.out.1 1 rfl (intsOf kk) (by rw [intsOf_len]; have := E.out.2.2.2.2; omega) (intsOf_bounds kk fun j hj => by have := E.out.2.2.2.1 j hj; omega) (ints_then HI.out.1 (fun b hb => Or.inr (HI.out.2 b hb)) V1.out) (fun b hb => Or.inr (HI.out.2 b hb)) E.out.2.1 (L' := [(p, ⟨6, K2, [], false, l'⟩), (q, ⟨6, K2, [], false, 0⟩)]) rfl).mono ?_
          rintro e y5 ⟨rfl, hT⟩
          have hT2 := (V1.out.trans hT).mono (B := fun j => j < w.heap.size) (fun j hj => Or.inl hj)
          have V2 := Lib.hid (show St w y5 [(p, ⟨6, K2, [], false, l'⟩), (q, ⟨6, K2, [], false, 0⟩)] from ⟨hT2.1, HB.out.trans (hT2.2.below (fun j hj => by omega) HB.out.size)⟩)
          clear hT hT2 V1 HI HW HB
          go_wp2_with fail
          refine (V2.out.all 0 rfl).mono ?_
          rintro e y6 ⟨rfl, hT⟩
          have V3 := Lib.hid hT; clear hT V2
          rw [show (Dk.mk 6 K2 [] false l').all = (Dk.mk 6 K2 [] false 0).all from rfl]
          go_wp2_with fail
          refine (V3.out.all 1 rfl).mono ?_
          rintro e y7 ⟨rfl, hT⟩
          have V4 := Lib.hid hT; clear hT V3
          go_wp2_with fail
          refine (V4.out.full ⟨#[122]⟩ (by decide)).mono ?_
          rintro e y8 ⟨rfl, hT⟩
          have V5 := Lib.hid hT; clear hT V4
          go_wp2_with fail
          refine (V5.out.write 0 rfl (by decide : ([] : List (Nat × List UInt8)).length < 1000) (by decide) (write_goodL 6 K2 [] l' 0 (by decide) (fullB ⟨#[122]⟩) (fullB_len _)) (L' := [(p, ⟨6, K2, [(0, fullB ⟨#[122]⟩)], false, l'⟩), (q, ⟨6, K2, [], false, 0⟩)]) rfl).mono ?_
          rintro e y9 ⟨rfl, hT⟩
          have V6 := Lib.hid hT; clear hT V5
          go_wp2_with fail
          refine (V6.out.sync 0 rfl (syncE_good _ rfl) rfl).mono ?_
          rintro e y10 ⟨rfl, hT⟩
          have V7 := Lib.hid hT.2; clear hT V6
          go_wp2
          go_ret
          exact ⟨rfl, V7.out⟩
end Go.Proofs.Ythmpdnndfgmmfaa.Disk
