/- Layer 2's law DiskTwice: the walk. -/
import Derived.Test.YthmpdnndfgmmfaaLawSt
namespace Go.Proofs.Ythmpdnndfgmmfaa.Disk
open Go.RowKit

attribute [local go_sem] Oper.semAt_some

theorem ints_at {w : World} {v : Value} {xs : List Int} (h : IntsAt w v xs) : ∃ a c, v = .slice a xs.length c ∧ ∀ i x, xs[i]? = some x → ∃ b o, a = some ⟨b, o, none⟩ ∧ w.cell? ⟨b, o + i, none⟩ = some (.int .i64 x) := by
  rcases h with ⟨a, c, rfl, rfl⟩ | ⟨b, o, c, rfl, _, _, h4⟩
  · exact ⟨a, c, rfl, fun i x hx => by simp at hx⟩
  · exact ⟨_, c, rfl, fun i x hx => ⟨b, o, rfl, h4 i x hx⟩⟩

set_option maxRecDepth 100000 in
set_option maxHeartbeats 16000000 in
theorem twice_any (sv : Value) (ss : List CallD) (pv : Value) (ps : List CallD) (kv : Value) (ks : List Int) (w : World) (hs : CallsAt w sv ss) (hso : ∀ c ∈ ss, c.Ok) (hsl : ss.length ≤ 9223372036854775807)
    (hp : CallsAt w pv ps) (hpo : ∀ c ∈ ps, c.Ok) (hpl : ps.length ≤ 9223372036854775807) (hk : IntsAt w kv ks) (hko : ∀ x ∈ ks, -9223372036854775808 ≤ x ∧ x ≤ 9223372036854775807) (hkl : ks.length ≤ 9223372036854775807) :
    Calls Try.prog 10 #[sv, pv, kv] w fun e w' => e = .returned (.bool true) ∧ Below w.heap.size w w' := by
  obtain ⟨po, pcap, rfl⟩ := hp.val
  have HS := Lib.hid (Had.mk hs hso hsl)
  have HP := Lib.hid (Had.mk hp hpo hpl)
  have HK := Lib.hid (And.intro hk hko)
  clear hs hso hsl hp hpo hk hko
  obtain ⟨D, hD⟩ : ∃ D, D = filledD ss ps := ⟨_, rfl⟩
  obtain ⟨m, hm⟩ : ∃ m, m = D.pend.length := ⟨_, rfl⟩
  have hm8 : m ≤ 8 := by rw [hm, hD]; exact filledD_pend ss ps
  have hmp : m ≤ ps.length := by rw [hm, hD]; show ((ps.take 8).map wrOf).length ≤ _; simp; omega
  obtain ⟨K, hK⟩ : ∃ K, filledD ss [] = ⟨6, K, [], false, 0⟩ := ⟨_, rfl⟩
  have hDK : D.kept = K := by
    have : (filledD ss []).kept = K := by rw [hK]
    rw [← this, hD]; rfl
  obtain ⟨kk, hkk⟩ : ∃ kk, kk = keepN ks m := ⟨_, rfl⟩
  have hkn := keepN_lt ks m
  have hkl2 := keepN_len ks m
  have hkok := okKeep_keepN ks m
  rw [← hkk] at hkn hkl2 hkok
  have hpick : ∀ j, j < m → ∃ c, ps[j]? = some c ∧ D.pend.getD j (0, zeros) = wrOf c := fun j hj => by
    obtain ⟨c, hc⟩ : ∃ c, ps[j]? = some c := ⟨_, List.getElem?_eq_getElem (by omega)⟩
    refine ⟨c, hc, ?_⟩
    rw [hD]
    show ((ps.take 8).map wrOf).getD j _ = _
    simp [List.getD, hc, show j < 8 by omega]
  obtain ⟨D2, hD2⟩ : ∃ X, X = D.crash (intsOf kk) := ⟨_, rfl⟩
  obtain ⟨D3, hD3⟩ : ∃ X, X = D2.crash [] := ⟨_, rfl⟩
  have e1 : D.crashE (intsOf kk) = (D2, 0) := by rw [hD2]; exact crashE_good D _ m hm.symm hkok
  have e2 : D2.crashE [] = (D3, 0) := by rw [hD3]; exact crashE_good D2 [] _ rfl (by unfold okKeep; simp)
  have a3 : D3.all = D2.all := by
    rw [hD3]
    exact all_congr rfl fun a => by rw [there_nil _ rfl, there_nil D2 (by rw [hD2]; rfl)]; rfl
  have a4 : (Dk.mk 6 ((D.picked (intsOf kk)).foldl layK K) [] false 0).all = D2.all := by
    rw [hD2]
    refine all_congr (by rw [hD]; rfl) fun a => ?_
    rw [there_nil _ rfl, there_nil _ rfl, ← hDK]; rfl
  have hpl20 : ∀ i, (D.picked (intsOf (kk.take i))).length < 1000 := fun i => by unfold Dk.picked intsOf; simp; omega
  have E := Lib.hid (And.intro e1 (And.intro e2 (And.intro a3 (And.intro a4 (And.intro hpick (And.intro hkn (And.intro hkl2 (And.intro hkk (And.intro hD (And.intro hm (And.intro hK hpl20)))))))))))
  have hkl3 := hkl2
  clear e1 e2 a3 a4 hpick hkn hkl2 hkok hkk hD hm hK hDK hD2 hD3 hpl20
  go_enter Try.func10, Try.ntmps10
  go_wp2_with fail
  refine (St.awake w).mono ?_
  rintro e w1 ⟨rfl, hT⟩
  have T1 := Lib.hid hT; clear hT
  go_wp2_with fail
  refine (T1.out.filled HS.out HP.out).mono ?_
  rintro e w2 ⟨p, rfl, hT⟩
  have T2 := Lib.hid (show St w w2 [(p, D)] from E.out.2.2.2.2.2.2.2.2.1 ▸ hT); clear hT T1
  go_wp2_with fail
  refine (T2.out.filled HS.out (Had.nil w)).mono ?_
  rw [E.out.2.2.2.2.2.2.2.2.2.2.1]
  rintro e w3 ⟨q, rfl, hT⟩
  have T3 := Lib.hid (show St w w3 [(p, D), (q, ⟨6, K, [], false, 0⟩)] from hT); clear hT T2
  go_wp2_with fail
  refine (T3.out.pending 0 rfl).mono ?_
  rw [← E.out.2.2.2.2.2.2.2.2.2.1]
  rintro e _ ⟨rfl, rfl⟩
  go_wp2_with fail
  refine (T3.out.keep HK.out.1 HK.out.2 hkl m (by omega)).mono ?_
  rw [← E.out.2.2.2.2.2.2.2.1]
  rintro e w5 ⟨v', rfl, hI, hIb, hB⟩
  obtain ⟨A, hA⟩ : ∃ A : Nat → Prop, A = fun k => k < w.heap.size ∨ (w3.heap.size ≤ k ∧ k < w5.heap.size) := ⟨_, rfl⟩
  have hW : Held w5 A [(p, D), (q, ⟨6, K, [], false, 0⟩)] := by rw [hA]; exact T3.out.1.widen hB
  have hAo : ∀ k, k < w.heap.size → A k := fun k hk => by rw [hA]; exact .inl hk
  have hAn : ∀ b, v'.ownBlock = some b → A b := fun b hb => by rw [hA]; exact .inr (hIb b hb)
  have hB0 := T3.out.2.trans (hB.mono T3.out.2.size)
  obtain ⟨va, vc, rfl, hat⟩ := ints_at hI
  rw [intsOf_len] at *
  have H := Lib.hid (And.intro hW (And.intro hAo (And.intro hAn (And.intro hB0 (And.intro hI hat)))))
  clear hW hAo hAn hB0 hI hat hA hIb hB T3
  go_wp2_with fail
  refine (crash_as H.out.1 0 rfl (intsOf kk) (by rw [intsOf_len]; omega) (intsOf_bounds kk fun j hj => by have := E.out.2.2.2.2.2.1 j hj; omega) H.out.2.2.2.2.1 H.out.2.2.1 E.out.1 (L' := [(p, D2), (q, ⟨6, K, [], false, 0⟩)]) rfl).mono ?_
  rintro e w6 ⟨rfl, hT⟩
  have T6 := Lib.hid hT; clear hT
  go_wp2_with fail
  refine (all_held T6.out.1 (i := 0) rfl).mono ?_
  rintro e w7 ⟨rfl, hT⟩
  have T7 := Lib.hid (T6.out.trans hT); clear hT T6
  go_wp2_with fail
  refine (crash_nil T7.out.1 0 rfl E.out.2.1 (L' := [(p, D3), (q, ⟨6, K, [], false, 0⟩)]) rfl).mono ?_
  rintro e w8 ⟨rfl, hT⟩
  have T8 := Lib.hid (T7.out.trans hT); clear hT T7
  go_wp2
  go_loopw [14] (fun i wr => ∃ j : Nat, i = .int .i64 j ∧ j ≤ kk.length ∧ Then w5 wr A [(p, D3), (q, ⟨6, K, D.picked (intsOf (kk.take j)), false, 0⟩)]) (fun i _ => kk.length - (intOf i).toNat)
  case atStart => exact ⟨0, rfl, by omega, T8.out⟩
  case round =>
    obtain ⟨i, rfl, hi, hT⟩ := hrel
    have HT := Lib.hid hT; clear hT
    by_cases hlt : i < kk.length
    · obtain ⟨j, hj⟩ : ∃ j, kk[i]? = some j := ⟨_, List.getElem?_eq_getElem hlt⟩
      have hjm := E.out.2.2.2.2.2.1 j (List.mem_of_getElem? hj)
      obtain ⟨c, hc, hcp⟩ := E.out.2.2.2.2.1 j hjm
      obtain ⟨lb, lo, rfl, hlc⟩ := H.out.2.2.2.2.2 i (j : Int) (by unfold intsOf; rw [List.getElem?_map, hj]; rfl)
      obtain ⟨b, off, rfl, hbl, hcap, hc1, hc2⟩ := HP.out.lies.at hc
      have hok := HP.out.ok c (List.mem_of_getElem? hc)
      have hlA : A lb := H.out.2.2.1 lb rfl
      have hbA : A b := H.out.2.1 b hbl
      have c0 : wr.cell? ⟨lb, lo + i, none⟩ = some (.int .i64 (j : Int)) := HT.out.cell hlA hlc
      have c1 : wr.cell? ⟨b, off + j * 6 + 1, none⟩ = some (.int .i64 c.a) := HT.out.cell hbA ((H.out.2.2.2.1.cell (p := ⟨b, off + j * 6 + 1, none⟩) hbl).trans hc1)
      have c2 : wr.cell? ⟨b, off + j * 6 + 2, none⟩ = some (.string c.s) := HT.out.cell hbA ((H.out.2.2.2.1.cell (p := ⟨b, off + j * 6 + 2, none⟩) hbl).trans hc2)
      have a1 := hok.a1
      have a2 := hok.a2
      have hs2 := hok.s
      have i1 : (0 : Int) ≤ (i : Int) := by omega
      have i2 : (i : Int) < (kk.length : Int) := by omega
      have j1 : (0 : Int) ≤ (j : Int) := by omega
      have j2 : (j : Int) < (ps.length : Int) := by omega
      have hge : ((ps.length : Int) ≤ (j : Int)) = False := by simp; omega
      have h6 := pickN_lt c.a (n := 6) (by decide)
      have hap : D.picked (intsOf (kk.take i)) ++ [(pickN c.a 6, fullB c.s)] = D.picked (intsOf (kk.take (i + 1))) := by
        rw [take_snoc hj]
        unfold Dk.picked intsOf
        rw [List.map_append, List.map_append]
        congr 1
        simp only [List.map_cons, List.map_nil, Int.toNat_natCast]
        rw [hcp]; rfl
      have HW := Lib.hid (And.intro hap (And.intro hlA hbA))
      clear hj hc hcp hlc hc1 hc2 hok hap
      go_upto_region 11 with fail
      go_region_held3 (fun w' => w'.cell? ⟨lb, lo + i, none⟩ = some (.int .i64 (j : Int)) ∧ w'.cell? ⟨b, off + j * 6 + 1, none⟩ = some (.int .i64 c.a) ∧ w'.cell? ⟨b, off + j * 6 + 2, none⟩ = some (.string c.s))
        (first
          | exact ⟨c0, c1, c2⟩
          | exact ⟨(hB2.cell (p := ⟨lb, lo + i, none⟩) (Kit.lt_of_cell c0)).trans c0, (hB2.cell (p := ⟨b, off + j * 6 + 1, none⟩) (Kit.lt_of_cell c1)).trans c1, (hB2.cell (p := ⟨b, off + j * 6 + 2, none⟩) (Kit.lt_of_cell c2)).trans c2⟩
          | exact ⟨hT3.cell HW.out.2.1 ((hB2.cell (p := ⟨lb, lo + i, none⟩) (Kit.lt_of_cell c0)).trans c0), hT3.cell HW.out.2.2 ((hB2.cell (p := ⟨b, off + j * 6 + 1, none⟩) (Kit.lt_of_cell c1)).trans c1), hT3.cell HW.out.2.2 ((hB2.cell (p := ⟨b, off + j * 6 + 2, none⟩) (Kit.lt_of_cell c2)).trans c2)⟩)
        (first
          | (go_at_call 17; refine (pick_any c.a a1 a2 6 (by decide) (by decide) _).mono ?_; rintro e w2 ⟨rfl, rfl⟩)
          | (go_at_call 18; refine (full_any c.s hs2 _).mono ?_; rintro e w2 ⟨rfl, hB2⟩)
          | (go_at_call 21; refine (write_as (HT.out.1.drew.1.grow hB2).1 1 rfl (E.out.2.2.2.2.2.2.2.2.2.2.2 i) (by omega) (write_good 6 K _ (pickN c.a 6) h6 (fullB c.s) (fullB_len c.s)) (L' := [(p, D3), (q, ⟨6, K, D.picked (intsOf (kk.take i)) ++ [(pickN c.a 6, fullB c.s)], false, 0⟩)]) rfl).mono ?_; rintro e w3 ⟨rfl, hT3⟩))
      all_goals go_wp2
      all_goals
        go_roundw
        case rel =>
          refine ⟨i + 1, by go_num, by omega, ?_⟩
          have hT4 := ((HT.out.trans HT.out.1.drew).trans (HT.out.1.drew.1.grow hB2)).trans hT3
          rw [HW.out.1] at hT4
          exact hT4
        case measure => simp [intOf]; omega
    · obtain rfl : i = kk.length := by omega
      have hfull : kk.take kk.length = kk := List.take_of_length_le (Nat.le_refl _)
      rw [hfull] at HT
      clear hfull
      have hts : ∀ x, (strB x).toList = x := strB_list
      go_wp2_with fail
      refine (sync_as HT.out.1 1 rfl (syncE_good _ rfl) (L' := [(p, D3), (q, ⟨6, (D.picked (intsOf kk)).foldl layK K, [], false, 0⟩)]) rfl).mono ?_
      rintro e w9 ⟨rfl, hT⟩
      have T9 := Lib.hid (HT.out.trans hT); clear hT HT
      go_wp2_with fail
      refine (all_held T9.out.1 (i := 0) rfl).mono ?_
      rw [E.out.2.2.1]
      rintro e w10 ⟨rfl, hT⟩
      have T10 := Lib.hid (T9.out.trans hT); clear hT T9
      go_wp2_with fail
      refine (all_held T10.out.1 (i := 1) rfl).mono ?_
      rw [E.out.2.2.2.1]
      rintro e w11 ⟨rfl, hT⟩
      have T11 := Lib.hid (T10.out.trans hT); clear hT T10
      go_wp2
      go_ret
      exact ⟨rfl, H.out.2.2.2.1.trans (T11.out.2.below (fun k hk => Nat.le_of_not_lt fun h => hk (H.out.2.1 k h)) H.out.2.2.2.1.size)⟩
end Go.Proofs.Ythmpdnndfgmmfaa.Disk
