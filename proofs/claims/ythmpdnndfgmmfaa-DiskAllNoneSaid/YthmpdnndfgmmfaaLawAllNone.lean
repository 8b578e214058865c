/- Layer 2's law DiskAllNone: the walk. -/
import Derived.Test.YthmpdnndfgmmfaaLawSt
namespace Go.Proofs.Ythmpdnndfgmmfaa.Disk
open Go.RowKit

attribute [local go_sem] Oper.semAt_some

set_option maxRecDepth 100000 in
set_option maxHeartbeats 8000000 in
theorem allNone_any (sv : Value) (ss : List CallD) (pv : Value) (ps : List CallD) (w : World) (hs : CallsAt w sv ss) (hso : ∀ c ∈ ss, c.Ok) (hsl : ss.length ≤ 9223372036854775807)
    (hp : CallsAt w pv ps) (hpo : ∀ c ∈ ps, c.Ok) (hpl : ps.length ≤ 9223372036854775807) :
    Calls Try.prog 4 #[sv, pv] w fun e w' => e = .returned (.bool true) ∧ Below w.heap.size w w' := by
  have HS := Lib.hid (Had.mk hs hso hsl)
  have HP := Lib.hid (Had.mk hp hpo hpl)
  clear hs hso hsl hp hpo hpl
  obtain ⟨D, hD⟩ : ∃ D, D = filledD ss ps := ⟨_, rfl⟩
  obtain ⟨D1, hD1⟩ : ∃ X, X = D.crash (intsOf (List.range D.pend.length)) := ⟨_, rfl⟩
  obtain ⟨D2, hD2⟩ : ∃ X, X = D.crash [] := ⟨_, rfl⟩
  obtain ⟨D3, hD3⟩ : ∃ X, X = D.sync := ⟨_, rfl⟩
  obtain ⟨D4, hD4⟩ : ∃ X, X = D3.crash [] := ⟨_, rfl⟩
  have e1 : D.crashE (intsOf (List.range D.pend.length)) = (D1, 0) := by rw [hD1]; exact crash_range D
  have e2 : D.crashE [] = (D2, 0) := by rw [hD2]; exact crashE_good D [] _ rfl (by unfold okKeep; simp)
  have e3 : D.syncE = (D3, 0) := by rw [hD3]; exact syncE_good D (by rw [hD]; rfl)
  have e4 : D3.crashE [] = (D4, 0) := by rw [hD4]; exact crashE_good D3 [] _ rfl (by unfold okKeep; simp)
  have a1 : D1.all = D.all := by rw [hD1]; exact all_range D
  have a2 : D2.all = (filledD ss []).all := by
    rw [hD2, hD]
    exact all_congr rfl fun a => there_of_kept rfl rfl rfl a
  have a4 : D4.all = D.all := by
    rw [hD4, hD3, hD]
    refine all_congr rfl fun a => ?_
    rw [there_nil _ rfl]; rfl
  have hm : D.pend.length ≤ 8 := by rw [hD]; exact filledD_pend ss ps
  have E := Lib.hid (And.intro e1 (And.intro e2 (And.intro e3 (And.intro e4 (And.intro a1 (And.intro a2 (And.intro a4 hD)))))))
  clear e1 e2 e3 e4 a1 a2 a4 hD1 hD2 hD3 hD4 hD
  have hinfo : (Try.prog.info? 3).map (fun i => (i.zero, i.size, i.bytes)) = some (some (.int .i64 0), 1, 8) := by kernel_rfl
  obtain ⟨i0, hi0, hz0, hz1, hz2⟩ := info_parts hinfo
  clear hinfo
  go_enter Try.func4, Try.ntmps4
  go_wp2_with fail
  refine (St.awake w).mono ?_
  rintro e w1 ⟨rfl, hT⟩
  have T1 := Lib.hid hT; clear hT
  go_wp2_with fail
  refine (T1.out.filled HS.out HP.out).mono ?_
  rintro e w2 ⟨p, rfl, hT⟩
  have T2 := Lib.hid (show St w w2 [(p, D)] from E.out.2.2.2.2.2.2.2 ▸ hT); clear hT T1
  go_wp2_with fail
  refine (T2.out.filled HS.out HP.out).mono ?_
  rintro e w3 ⟨q, rfl, hT⟩
  have T3 := Lib.hid (show St w w3 [(p, D), (q, D)] from E.out.2.2.2.2.2.2.2 ▸ hT); clear hT T2
  go_wp2_with fail
  refine (T3.out.filled HS.out HP.out).mono ?_
  rintro e w4 ⟨r, rfl, hT⟩
  have T4 := Lib.hid (show St w w4 [(p, D), (q, D), (r, D)] from E.out.2.2.2.2.2.2.2 ▸ hT); clear hT T3
  go_wp2_with fail
  refine (T4.out.all 0 rfl).mono ?_
  rintro e w5 ⟨rfl, hT⟩
  have T5 := Lib.hid hT; clear hT T4
  go_wp2
  go_loopw [10, 11] (fun v i wr => ∃ k : Nat, i = .int .i64 k ∧ k ≤ D.pend.length ∧ wr.ownsRow w5.heap.size 3 1 v (List.range k).length ((intsOf (List.range k)).map (Value.int .i64)) ∧ Below w5.heap.size w5 wr) (fun _ i _ => D.pend.length - (intOf i).toNat)
  case atStart => exact ⟨0, rfl, by omega, World.ownsRow_nil _ _ _ _, Below.refl _ _⟩
  case round =>
    obtain ⟨k, rfl, hk, hown, hB⟩ := hrel
    have T6 := Lib.hid (T5.out.grow hB)
    by_cases hlt : k < D.pend.length
    · have h8 : k < 8 := by omega
      have hsz := hB.size
      have hll : (List.range k).length = k := List.length_range
      go_wp2_with (first
        | (go_at_call 15; refine (T6.out.pending 0 rfl).mono ?_; rintro e w3' ⟨rfl, rfl⟩)
        | (at_builtin; refine wpList_append_own _ rfl _ _ 23 rfl w5.heap.size 3 i0 (.int .i64 0) 1 8 Try.underlying23 hi0 hz0 hz1 hz2 rfl (by decide) _ _ _ rfl (hown.alloc (.cells #[.int .i64 (k : Int)] 3)) ⟨wr.heap.size, 0, none⟩ 1 1 [.int .i64 (k : Int)] rfl rfl (cell_one_new _ _ _) (by simp [Value.oneCell']) (by rw [hll]; unfold maxLen; omega) (by rw [hll]; omega) (by simp; omega) ?_; intro v' w7 hown' hgrow _))
      go_roundw
      case rel =>
        have hl := (hown.alloc (.cells #[.int .i64 (k : Int)] 3)).lt
        refine ⟨k + 1, by go_num, by omega, ?_, (hB.alloc hsz (.cells #[.int .i64 (k : Int)] 3)).grown hgrow (by simp; omega) (fun j e => (hl j e).1)⟩
        rw [List.range_succ]
        simpa [intsOf] using hown'
      case measure => simp [intOf]; omega
    · obtain rfl : k = D.pend.length := by omega
      have hI := ints_own hown
      have hIb := hown.lt
      have HI := Lib.hid (And.intro hI (And.intro hIb hB))
      clear hI hIb hB hown
      go_wp2_with fail
      refine (T6.out.pending 0 rfl).mono ?_
      rintro e _ ⟨rfl, rfl⟩
      clear T6
      go_wp2_with fail
      refine (T5.out.crash 0 rfl _ (by rw [intsOf_len, List.length_range]; omega) (intsOf_bounds _ fun k hk => by have := List.mem_range.1 hk; omega) HI.out.2.2 HI.out.1 HI.out.2.1 E.out.1 (L' := [(p, D1), (q, D), (r, D)]) rfl).mono ?_
      rintro e w8 ⟨rfl, hT⟩
      have T8 := Lib.hid hT; clear hT T5 HI
      go_wp2_with fail
      refine (T8.out.crash0 1 rfl E.out.2.1 (L' := [(p, D1), (q, D2), (r, D)]) rfl).mono ?_
      rintro e w9 ⟨rfl, hT⟩
      have T9 := Lib.hid hT; clear hT T8
      go_wp2_with fail
      refine (T9.out.sync 2 rfl E.out.2.2.1 (L' := [(p, D1), (q, D2), (r, D3)]) rfl).mono ?_
      rintro e w10 ⟨rfl, hT⟩
      have T10 := Lib.hid hT; clear hT T9
      go_wp2_with fail
      refine (T10.out.crash0 2 rfl E.out.2.2.2.1 (L' := [(p, D1), (q, D2), (r, D4)]) rfl).mono ?_
      rintro e w11 ⟨rfl, hT⟩
      have T11 := Lib.hid hT; clear hT T10
      have hts : ∀ x, (strB x).toList = x := strB_list
      have b1 := E.out.2.2.2.2.1
      have b2 := E.out.2.2.2.2.2.1
      have b3 := E.out.2.2.2.2.2.2.1
      go_wp2_with fail
      refine (T11.out.all 0 rfl).mono ?_
      rintro e w12 ⟨rfl, hT⟩
      have T12 := Lib.hid hT; clear hT T11
      go_wp2_with fail
      refine (T12.out.all 1 rfl).mono ?_
      rintro e w13 ⟨rfl, hT⟩
      have T13 := Lib.hid hT; clear hT T12
      go_wp2_with fail
      refine (T13.out.filled HS.out (Had.nil w)).mono ?_
      rintro e w14 ⟨t, rfl, hT⟩
      have T14 := Lib.hid (show St w w14 [(p, D1), (q, D2), (r, D4), (t, filledD ss [])] from hT); clear hT T13
      go_wp2_with fail
      refine (T14.out.all 3 rfl).mono ?_
      rintro e w15 ⟨rfl, hT⟩
      have T15 := Lib.hid hT; clear hT T14
      go_wp2_with fail
      refine (T15.out.all 2 rfl).mono ?_
      rintro e w16 ⟨rfl, hT⟩
      have T16 := Lib.hid hT; clear hT T15
      go_wp2
      go_ret
      exact ⟨rfl, T16.out.2⟩
end Go.Proofs.Ythmpdnndfgmmfaa.Disk
