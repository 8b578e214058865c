/- Layer 2's law DiskLast: the walk. -/
import Derived.Test.YthmpdnndfgmmfaaLawSt
namespace Go.Proofs.Ythmpdnndfgmmfaa.Disk
open Go.RowKit

attribute [local go_sem] Oper.semAt_some

theorem foldl_one (k : Nat) : ∀ (l : List (Nat × List UInt8)) (K : Nat → List UInt8), (∀ x ∈ l, x.1 = k) → ∀ y, y.1 = k → (l ++ [y]).foldl layK K k = y.2 := by
  intro l K _ y hy
  rw [List.foldl_append]
  show layK _ y k = _
  unfold layK
  rw [if_pos hy.symm]
def lastD (k : Nat) (ss : List ByteArray) (n : Nat) : Dk := ⟨6, fun _ => zeros, (ss.take n).map fun s => (k, fullB s), false, 0⟩
theorem lastD_len (k : Nat) (ss : List ByteArray) (n : Nat) (h : n ≤ ss.length) : (lastD k ss n).pend.length = n := by unfold lastD; simp; omega
theorem last_there (k : Nat) (ss : List ByteArray) (n : Nat) (init : List Nat) (j : Nat) (s : ByteArray) (hj : j < n) (hs : ss[j]? = some s) : ((lastD k ss n).crash (intsOf (init ++ [j]))).there k = fullB s := by
  rw [there_nil _ rfl]
  show ((lastD k ss n).picked (intsOf (init ++ [j]))).foldl layK (fun _ => zeros) k = _
  have hp : (lastD k ss n).picked (intsOf (init ++ [j])) = (lastD k ss n).picked (intsOf init) ++ [(k, fullB s)] := by
    unfold Dk.picked intsOf
    rw [List.map_append, List.map_append]
    congr 1
    simp [lastD, List.getD, List.getElem?_take, hj, hs]
  rw [hp, List.foldl_append]
  show layK _ (k, fullB s) k = _
  unfold layK
  rw [if_pos rfl]

set_option maxRecDepth 100000 in
set_option maxHeartbeats 8000000 in
theorem last_any (lv : Value) (ss : List ByteArray) (x : Int) (x1 : -9223372036854775808 ≤ x) (x2 : x ≤ 9223372036854775807) (kv : Value) (ks : List Int) (w : World) (hl : StrsAt w lv ss) (hso : ∀ s ∈ ss, s.size ≤ 9223372036854775807) (hsl : ss.length ≤ 9223372036854775807)
    (hk : IntsAt w kv ks) (hko : ∀ x ∈ ks, -9223372036854775808 ≤ x ∧ x ≤ 9223372036854775807) (hkl : ks.length ≤ 9223372036854775807) :
    Calls Try.prog 5 #[lv, .int .i64 x, kv] w fun e w' => e = .returned (.bool true) ∧ Below w.heap.size w w' := by
  obtain ⟨lo, lcap, hlv⟩ : ∃ o cap, lv = .slice o ss.length cap := by
    rcases hl with ⟨a, cap, rfl, rfl⟩ | ⟨b, o, cap, rfl, _⟩
    · exact ⟨a, cap, rfl⟩
    · exact ⟨_, cap, rfl⟩
  subst hlv
  have hat : ∀ {w' : World} {i : Nat} {s : ByteArray}, Below w.heap.size w w' → ss[i]? = some s → ∃ b off, lo = some ⟨b, off, none⟩ ∧ w'.cell? ⟨b, off + i, none⟩ = some (.string s) := fun {w' i s} hb hi => by
    rcases hl with ⟨_, _, _, rfl⟩ | ⟨b, off, cap', h1, h2, h3, h4⟩
    · simp at hi
    · cases h1
      exact ⟨b, off, rfl, (hb.cell (p := ⟨b, off + i, none⟩) h2).trans (h4 i s hi)⟩
  have HAT := Lib.hid (fun w' i s => @hat w' i s)
  have HK := Lib.hid (And.intro hk hko)
  obtain ⟨k, hkk⟩ : ∃ k, k = pickN x 6 := ⟨_, rfl⟩
  have hk6 : k < 6 := by rw [hkk]; exact pickN_lt x (by decide)
  obtain ⟨n, hn⟩ : ∃ n, n = min ss.length 9 := ⟨_, rfl⟩
  have hn9 : n ≤ 9 := by omega
  have hnl : n ≤ ss.length := by omega
  have hmin : min (ss.length : Int) 9 = (n : Int) := by omega
  have HN := Lib.hid hn
  have HX := Lib.hid (And.intro hkk hso)
  clear hl hat hk hko hn hkk hso
  go_enter Try.func5, Try.ntmps5
  go_wp2_with fail
  refine (St.awake w).mono ?_
  rintro e w1 ⟨rfl, hT⟩
  have T1 := Lib.hid hT; clear hT
  go_wp2_with fail
  refine (T1.out.filled (Had.nil w) (Had.nil w)).mono ?_
  rintro e w2 ⟨p, rfl, hT⟩
  have T2 := Lib.hid (show St w w2 [(p, lastD k ss 0)] from hT); clear hT T1
  go_wp2_with fail
  refine (pick_any x x1 x2 6 (by decide) (by decide) _).mono ?_
  rw [← HX.out.1]
  rintro e w2' ⟨rfl, rfl⟩
  clear hmin
  go_upto_region 4 with fail
  go_cut [10] from 21 (fun v wc => v = .int .i64 (n : Int) ∧ wc = w2)
  case first =>
    go_wp2
    all_goals go_meet
    all_goals refine ⟨?_, rfl⟩
    all_goals (have := HN.out; congr 1; omega)
  case rest =>
    obtain ⟨rfl, rfl⟩ := hcut
    go_wp2
    go_loopw [11] (fun i wr => ∃ j : Nat, i = .int .i64 j ∧ j ≤ n ∧ St w wr [(p, lastD k ss j)]) (fun i _ => n - (intOf i).toNat)
    case atStart => exact ⟨0, rfl, by omega, T2.out⟩
    case round =>
      obtain ⟨i, rfl, hi, hT⟩ := hrel
      have HT := Lib.hid hT; clear hT
      by_cases hlt : i < n
      · obtain ⟨s, hs⟩ : ∃ s, ss[i]? = some s := ⟨_, List.getElem?_eq_getElem (by omega)⟩
        obtain ⟨b, off, rfl, hc⟩ := HAT.out _ i s HT.out.2 hs
        have hsz := HX.out.2 s (List.mem_of_getElem? hs)
        have i1 : (i : Int) < (ss.length : Int) := by omega
        have HS := Lib.hid hs
        clear hs
        go_wp2_with fail
        refine (HT.out.full s hsz).mono ?_
        rintro e w3 ⟨rfl, hT⟩
        have T3 := Lib.hid hT; clear hT HT
        go_wp2_with fail
        refine (T3.out.write 0 rfl (by rw [lastD_len _ _ _ (by omega)]; omega) (by omega) (write_good 6 (fun _ => zeros) _ k hk6 (fullB s) (fullB_len s)) (L' := [(p, lastD k ss (i + 1))]) (by
          show [(p, _)] = [(p, _)]
          unfold lastD
          rw [take_snoc HS.out, List.map_append]
          rfl)).mono ?_
        rintro e w4 ⟨rfl, hT⟩
        have T4 := Lib.hid hT; clear hT T3
        go_wp2
        go_roundw
        case rel => exact ⟨i + 1, by go_num, by omega, T4.out⟩
        case measure => simp [intOf]; omega
      · obtain rfl : i = n := by omega
        have hlen := lastD_len k ss i (by omega)
        have hkn := keepN_lt ks i
        have hkl2 := keepN_len ks i
        have hnd := okKeep_keepN ks i
        obtain ⟨kk, hkk⟩ : ∃ kk, kk = keepN ks i := ⟨_, rfl⟩
        rw [← hkk] at hkn hkl2 hnd
        have hce := crashE_good (lastD k ss i) (intsOf kk) i hlen hnd
        have HCE := Lib.hid (And.intro hce (And.intro hkn hkk))
        clear hce hnd hkn hlen
        go_wp2_with fail
        refine (HT.out.keep HK.out.1 HK.out.2 hkl i (by omega)).mono ?_
        rw [← HCE.out.2.2]
        rintro e w5 ⟨v', rfl, hI, hIb, hB5⟩
        have HI := Lib.hid (And.intro hI (And.intro hIb hB5))
        clear hI hIb hB5
        have hts : ∀ x, (strB x).toList = x := strB_list
        have hxl : (intsOf kk).length ≤ 1000 := by rw [intsOf_len]; omega
        have hxb := intsOf_bounds kk (fun q hq => by have := HCE.out.2.1 q hq; omega)
        have HXL := Lib.hid (And.intro hxl hxb)
        clear hxl hxb
        rcases List.eq_nil_or_concat kk with hnil | ⟨init, j, hcat⟩
        · have hv : ∃ a c, v' = .slice a 0 c := by
            rcases HI.out.1 with ⟨a, c, h, _⟩ | ⟨b, o, c, h, _⟩
            · exact ⟨a, c, h⟩
            · exact ⟨_, c, by rw [h, hnil]; rfl⟩
          obtain ⟨va, vc, rfl⟩ := hv
          have hfin : ((lastD k ss i).crash (intsOf kk)).read (k : Int) = (strB zeros, 0) := read_good _ k (by show k < 6; omega) (by rw [there_nil _ rfl, hnil]; rfl)
          have HF := Lib.hid hfin
          clear hnil hfin
          go_wp2_with fail
          refine (full_any ⟨#[]⟩ (by decide) _).mono ?_
          rw [fullB_none]
          rintro e w6 ⟨rfl, hB6⟩
          have HB6 := Lib.hid (HI.out.2.2.trans (hB6.mono HI.out.2.2.size))
          have HB6' := Lib.hid hB6
          clear hB6
          go_wp2_with fail
          refine (HT.out.crash 0 rfl _ HXL.out.1 HXL.out.2 HB6.out (ints_keep HI.out.1 HB6'.out) (fun b hb => ⟨(HI.out.2.1 b hb).1, Nat.lt_of_lt_of_le (HI.out.2.1 b hb).2 HB6'.out.size⟩) HCE.out.1 (L' := [(p, (lastD k ss i).crash (intsOf kk))]) rfl).mono ?_
          rintro e w7 ⟨rfl, hT⟩
          have T7 := Lib.hid hT; clear hT HT HB6 HB6' HI
          go_wp2_with fail
          refine (T7.out.read 0 rfl (by omega) HF.out).mono ?_
          rintro e w8 ⟨rfl, hT⟩
          have T8 := Lib.hid hT; clear hT T7
          go_wp2
          go_ret
          exact ⟨rfl, T8.out.2⟩
        · have hj : j < i := HCE.out.2.1 j (by rw [hcat]; simp)
          obtain ⟨s, hs⟩ : ∃ s, ss[j]? = some s := ⟨_, List.getElem?_eq_getElem (by omega)⟩
          have hkk2 : kk = init ++ [j] := by rw [hcat]; simp
          have hklen : (intsOf kk).length = init.length + 1 := by rw [intsOf_len, hkk2]; simp
          obtain ⟨b, o, cp, rfl, hbl, hcl, hcell⟩ : ∃ b o cp, v' = .slice (some ⟨b, o, none⟩) (init.length + 1) cp ∧ b < w5.heap.size ∧ init.length + 1 ≤ cp ∧ w5.cell? ⟨b, o + init.length, none⟩ = some (.int .i64 (j : Int)) := by
            rcases HI.out.1 with ⟨a, c, _, h⟩ | ⟨b, o, c, h, h2, h3, h4⟩
            · rw [h] at hklen; simp at hklen
            · rw [hklen] at h h3
              exact ⟨b, o, c, h, h2, h3, h4 init.length j (by rw [hkk2]; simp [intsOf])⟩
          have hfin : ((lastD k ss i).crash (intsOf kk)).read (k : Int) = (strB (fullB s), 0) := read_good _ k (by show k < 6; omega) (by rw [hkk2]; exact last_there k ss i init j s hj hs)
          have hsz := HX.out.2 s (List.mem_of_getElem? hs)
          have hkl3 : init.length ≤ 20 := by rw [hkk2] at hkl2; simp at hkl2; omega
          have HF := Lib.hid (And.intro hfin hs)
          clear hcat hkk2 hklen hfin hs hbl
          go_wp2_with fail
          refine (full_any ⟨#[]⟩ (by decide) _).mono ?_
          rw [fullB_none]
          rintro e w6 ⟨rfl, hB6⟩
          have HB6 := Lib.hid (HI.out.2.2.trans (hB6.mono HI.out.2.2.size))
          have HB6' := Lib.hid hB6
          have hcell6 : w6.cell? ⟨b, o + init.length, none⟩ = some (.int .i64 (j : Int)) := (hB6.cell (p := ⟨b, o + init.length, none⟩) (Kit.lt_of_cell hcell)).trans hcell
          obtain ⟨lb, loff, rfl, hc⟩ := HAT.out w6 j s (HT.out.2.trans (HB6.out.mono HT.out.2.size)) HF.out.2
          clear hB6 hcell
          have hw1 : IntKind.i64.wrap ((init.length : Int) + 1 - 1) = (init.length : Int) := by rw [IntKind.wrap_i64]; omega
          have hpos : (0 : Int) < (init.length : Int) + 1 := by omega
          have j1 : (j : Int) < (ss.length : Int) := by omega
          have j0 : (0 : Int) ≤ (j : Int) := by omega
          go_wp2_with fail
          refine (full_any s hsz _).mono ?_
          rintro e w7 ⟨rfl, hB7⟩
          have HB7 := Lib.hid (HB6.out.trans (hB7.mono HB6.out.size))
          have HB7' := Lib.hid (HB6'.out.trans (hB7.mono HB6'.out.size))
          clear hB7 HB6 HB6' hcell6 hc
          go_wp2_with fail
          refine (HT.out.crash 0 rfl _ HXL.out.1 HXL.out.2 HB7.out (ints_keep HI.out.1 HB7'.out) (fun b hb => ⟨(HI.out.2.1 b hb).1, Nat.lt_of_lt_of_le (HI.out.2.1 b hb).2 HB7'.out.size⟩) HCE.out.1 (L' := [(p, (lastD k ss i).crash (intsOf kk))]) rfl).mono ?_
          rintro e w8 ⟨rfl, hT⟩
          have T8 := Lib.hid hT; clear hT HT HB7 HB7' HI
          go_wp2_with fail
          refine (T8.out.read 0 rfl (by omega) HF.out.1).mono ?_
          rintro e w9 ⟨rfl, hT⟩
          have T9 := Lib.hid hT; clear hT T8
          go_wp2
          go_ret
          exact ⟨rfl, T9.out.2⟩
end Go.Proofs.Ythmpdnndfgmmfaa.Disk
