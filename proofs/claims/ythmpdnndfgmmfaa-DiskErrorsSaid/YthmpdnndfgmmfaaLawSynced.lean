/- Layer 2's law DiskSynced: the walk. -/
import Derived.Test.YthmpdnndfgmmfaaLawAwake
namespace Go.Proofs.Ythmpdnndfgmmfaa.Disk
open Go.RowKit

attribute [local go_sem] Oper.semAt_some

theorem foldl_mem (a : Nat) : ∀ (l : List (Nat × List UInt8)) (K : Nat → List UInt8), l.foldl layK K a = K a ∨ ∃ x ∈ l, x.1 = a ∧ l.foldl layK K a = x.2
  | [], K => .inl rfl
  | x :: l, K => by
    rw [List.foldl_cons]
    rcases foldl_mem a l (layK K x) with h | ⟨y, hy, h1, h2⟩
    · rw [h]
      unfold layK
      by_cases e : a = x.1
      · rw [if_pos e]; exact .inr ⟨x, by simp, e.symm, rfl⟩
      · rw [if_neg e]; exact .inl rfl
    · exact .inr ⟨y, by simp [hy], h1, h2⟩
theorem picked_mem {D : Dk} {xs : List Int} (h : ∀ k ∈ xs, 0 ≤ k ∧ k < D.pend.length) : ∀ x ∈ D.picked xs, x ∈ D.pend := by
  intro x hx
  obtain ⟨k, hk, rfl⟩ := List.mem_map.1 hx
  have := h k hk
  have hl : k.toNat < D.pend.length := by omega
  rw [List.getD, List.getElem?_eq_getElem hl]
  exact List.getElem_mem hl
theorem intsOf_in (xs : List Int) (many : Nat) : ∀ k ∈ intsOf (keepN xs many), 0 ≤ k ∧ k < many := by
  intro k hk
  obtain ⟨j, hj, rfl⟩ := List.mem_map.1 hk
  have := keepN_lt xs many j hj
  omega
theorem intsOf_bounds (l : List Nat) (h : ∀ k ∈ l, k < 1000) : ∀ k ∈ intsOf l, -9223372036854775808 ≤ k ∧ k ≤ 9223372036854775807 := by
  intro k hk
  obtain ⟨j, hj, rfl⟩ := List.mem_map.1 hk
  have := h j hj
  omega
theorem intsOf_len (l : List Nat) : (intsOf l).length = l.length := by simp [intsOf]
theorem filledD_pend (ss ps : List CallD) : (filledD ss ps).pend.length ≤ 8 := by unfold filledD; simp; omega
theorem crash_keep (D : Dk) (ks : List Int) : D.crashE (intsOf (keepN ks D.pend.length)) = (D.crash (intsOf (keepN ks D.pend.length)), 0) :=
  crashE_good D _ _ rfl (okKeep_keepN ks _)
theorem there_nil (D : Dk) (h : D.pend = []) (a : Nat) : D.there a = D.kept a := by unfold Dk.there; rw [h]; rfl

/-- What was synced, and not written since, is there; each sector is what it was, or one of its writes. -/
theorem synced_there (ss ps : List CallD) (ks : List Int) (a : Nat) :
    ((filledD ss ps).crash (intsOf (keepN ks (filledD ss ps).pend.length))).there a = (filledD ss []).there a ∨
      ∃ i c, i < 8 ∧ ps[i]? = some c ∧ pickN c.a 6 = a ∧ ((filledD ss ps).crash (intsOf (keepN ks (filledD ss ps).pend.length))).there a = fullB c.s := by
  rw [there_nil _ rfl, there_nil (filledD ss []) rfl]
  show (((filledD ss ps).picked _).foldl layK (filledD ss ps).kept a = _ ∨ _)
  rcases foldl_mem a ((filledD ss ps).picked (intsOf (keepN ks (filledD ss ps).pend.length))) (filledD ss ps).kept with h | ⟨x, hx, h1, h2⟩
  · exact .inl h
  · right
    have hm := picked_mem (intsOf_in ks _) x hx
    obtain ⟨c, hc, rfl⟩ := List.mem_map.1 (show x ∈ (ps.take 8).map wrOf from hm)
    obtain ⟨i, hi⟩ := List.mem_iff_getElem?.1 hc
    rw [List.getElem?_take] at hi
    split at hi
    · exact ⟨i, c, by assumption, hi, h1, h2⟩
    · cases hi

theorem ints_keep {w w' : World} {v : Value} {xs : List Int} (h : IntsAt w v xs) (hb : Below w.heap.size w w') : IntsAt w' v xs := by
  rcases h with h | ⟨b, o, cap, h1, h2, h3, h4⟩
  · exact .inl h
  · exact .inr ⟨b, o, cap, h1, by have := hb.size; omega, h3, fun j x hx => (hb.cell (p := ⟨b, o + j, none⟩) h2).trans (h4 j x hx)⟩

theorem strB_list (x : List UInt8) : (strB x).toList = x := by rw [ByteArray.toList_eq]; simp [strB]
/-- Whether a sector is what it was, or one of these writes. -/
def okL (x t : List UInt8) (a : Nat) (l : List CallD) : Bool := (x == t) || l.any fun c => (pickN c.a 6 == a) && (x == fullB c.s)
theorem okL_next (x t : List UInt8) (a : Nat) {l : List CallD} {k : Nat} {c : CallD} (h : l[k]? = some c) : okL x t a (l.take (k + 1)) = (okL x t a (l.take k) || ((pickN c.a 6 == a) && (x == fullB c.s))) := by
  unfold okL
  rw [take_snoc h, List.any_append]
  simp [Bool.or_assoc]

set_option maxRecDepth 100000 in
set_option maxHeartbeats 8000000 in
theorem synced_any (sv : Value) (ss : List CallD) (pv : Value) (ps : List CallD) (kv : Value) (ks : List Int) (w : World) (hs : CallsAt w sv ss) (hso : ∀ c ∈ ss, c.Ok) (hsl : ss.length ≤ 9223372036854775807)
    (hp : CallsAt w pv ps) (hpo : ∀ c ∈ ps, c.Ok) (hpl : ps.length ≤ 9223372036854775807) (hk : IntsAt w kv ks) (hko : ∀ x ∈ ks, -9223372036854775808 ≤ x ∧ x ≤ 9223372036854775807) (hkl : ks.length ≤ 9223372036854775807) :
    Calls Try.prog 3 #[sv, pv, kv] w fun e w' => e = .returned (.bool true) ∧ Below w.heap.size w w' := by
  obtain ⟨po, pcap, rfl⟩ := hp.val
  have HS := Lib.hid (And.intro hs (And.intro hso hs.own))
  have HP := Lib.hid (And.intro hp (And.intro hpo hp.own))
  have HK := Lib.hid (And.intro hk hko)
  clear hs hso hp hpo hk hko
  go_enter Try.func3, Try.ntmps3
  go_wp2_with fail
  refine (awake_any w).mono ?_
  rintro e w1 ⟨rfl, hB1⟩
  have h1 : Held w1 (fun k => k < w.heap.size) [] := Held.nil w1 _ (fun k hk => Nat.lt_of_lt_of_le hk hB1.size)
  have T1 := Lib.hid (And.intro h1 hB1); clear h1 hB1
  go_wp2_with fail
  refine (filled_held T1.out.1 _ _ ss ps (HS.out.1.below T1.out.2) (HP.out.1.below T1.out.2) HS.out.2.1 HP.out.2.1 HS.out.2.2 HP.out.2.2 hsl hpl).mono ?_
  rintro e w2 ⟨p, rfl, _, hT⟩
  have T2 := Lib.hid (And.intro (show Held w2 _ [(p, filledD ss ps)] from hT.1) (show Below w.heap.size w w2 from T1.out.2.trans (hT.2.below (fun k hk => by omega) T1.out.2.size))); clear hT T1
  go_wp2_with fail
  refine (filled_held T2.out.1 _ _ ss [] (HS.out.1.below T2.out.2) (.inl ⟨_, _, rfl, rfl⟩) HS.out.2.1 (by simp) HS.out.2.2 (fun h => absurd rfl h) hsl (by simp)).mono ?_
  rintro e w3 ⟨q, rfl, _, hT⟩
  have T3 := Lib.hid (And.intro (show Held w3 _ [(p, filledD ss ps), (q, filledD ss [])] from hT.1) (show Below w.heap.size w w3 from T2.out.2.trans (hT.2.below (fun k hk => by omega) T2.out.2.size))); clear hT T2
  go_wp2_with fail
  refine (pending_held (i := 0) T3.out.1 rfl).mono ?_
  rintro e w3' ⟨rfl, rfl⟩
  have hfew := filledD_pend ss ps
  go_wp2_with fail
  refine (keep_any ks HK.out.2 hkl kv w3 (ints_keep HK.out.1 T3.out.2) (filledD ss ps).pend.length (by omega)).mono ?_
  rintro e w4 ⟨v', rfl, hI, hIb, hB4⟩
  have HI := Lib.hid (And.intro hI (And.intro hIb hB4)); clear hI hIb hB4
  obtain ⟨D', hD'⟩ : ∃ D', D' = (filledD ss ps).crash (intsOf (keepN ks (filledD ss ps).pend.length)) := ⟨_, rfl⟩
  have hth := synced_there ss ps ks
  have hce := crash_keep (filledD ss ps) ks
  rw [← hD'] at hce
  simp only [← hD'] at hth
  have HTH := Lib.hid hth
  have HCE := Lib.hid hce
  have hDn : D'.n = 6 := by rw [hD']; rfl
  have hDp : D'.pend.length = 0 := by rw [hD']; rfl
  have HDP := Lib.hid hDp
  clear hth hce hD' hfew hDp
  go_wp2_with fail
  refine (crash_new T3.out.1 0 rfl _ (by rw [intsOf_len]; exact Nat.le_trans (keepN_len ks _) (by decide)) (intsOf_bounds _ fun k hk => by have := keepN_lt ks _ k hk; have := filledD_pend ss ps; omega) HI.out.2.2 HI.out.1 HI.out.2.1 HCE.out (L' := [(p, D'), (q, filledD ss [])]) rfl).mono ?_
  rintro e w5 ⟨rfl, hT⟩
  have T5 := Lib.hid (And.intro hT.1 (show Below w.heap.size w w5 from T3.out.2.trans (hT.2.below (fun k hk => by omega) T3.out.2.size))); clear hT T3
  go_wp2
  go_loopw [11] (fun i wr => ∃ a : Nat, i = .int .i64 a ∧ a ≤ 6 ∧ Held wr (fun k => k < w.heap.size) [(p, D'), (q, filledD ss [])] ∧ Below w.heap.size w wr) (fun i _ => 6 - (intOf i).toNat)
  case atStart => exact ⟨0, rfl, by omega, T5.out⟩
  case round =>
    obtain ⟨a, rfl, ha, hH, hB⟩ := hrel
    have HH := Lib.hid (And.intro hH hB); clear hH hB
    by_cases hlt : a < 6
    · go_wp2_with fail
      refine (read_as HH.out.1 0 rfl (by omega) (read_good D' a (by omega) rfl)).mono ?_
      rintro e w6 ⟨rfl, hT⟩
      have T6 := Lib.hid (And.intro hT.1 (show Below w.heap.size w w6 from HH.out.2.trans (hT.2.below (fun k hk => by omega) HH.out.2.size))); clear hT HH
      go_wp2_with fail
      refine (read_as T6.out.1 1 rfl (by omega) (read_good (filledD ss []) a (by show a < 6; omega) rfl)).mono ?_
      rintro e w7 ⟨rfl, hT⟩
      have T7 := Lib.hid (And.intro hT.1 (show Below w.heap.size w w7 from T6.out.2.trans (hT.2.below (fun k hk => by omega) T6.out.2.size))); clear hT T6
      have hts : ∀ x, (strB x).toList = x := strB_list
      have hth := HTH.out a
      obtain ⟨x, hx⟩ : ∃ x, x = D'.there a := ⟨_, rfl⟩
      obtain ⟨t, ht⟩ : ∃ t, t = (filledD ss []).there a := ⟨_, rfl⟩
      rw [← hx, ← ht] at hth
      have HT2 := Lib.hid hth
      rw [← hx, ← ht]
      clear hth hx ht
      go_wp2
      go_loopw [16, 17] (fun o i wr => ∃ k : Nat, i = .int .i64 k ∧ k ≤ 8 ∧ k ≤ ps.length ∧ o = .bool (okL x t a (ps.take k)) ∧ Held wr (fun k => k < w.heap.size) [(p, D'), (q, filledD ss [])] ∧ Below w.heap.size w wr) (fun _ i _ => 8 - (intOf i).toNat)
      case atStart => exact ⟨0, rfl, by omega, by omega, by simp [okL], T7.out⟩
      case round =>
        obtain ⟨k, rfl, hk8, hkl, rfl, hH, hB⟩ := hrel
        have HH := Lib.hid (And.intro hH hB); clear hH hB
        by_cases hin : k < ps.length ∧ k < 8
        · obtain ⟨h1, h2⟩ := hin
          obtain ⟨c, hc⟩ : ∃ c, ps[k]? = some c := ⟨_, List.getElem?_eq_getElem h1⟩
          have hnext := okL_next x t a hc
          cases hok : okL x t a (ps.take k) with
          | true =>
            rw [hok] at hnext
            have HN := Lib.hid hnext
            clear hnext hok
            go_wp2
            go_roundw
            case rel => exact ⟨k + 1, by go_num, by omega, by omega, by rw [HN.out]; rfl, HH.out⟩
            case measure => simp [intOf]; omega
          | false =>
            rw [hok, Bool.false_or] at hnext
            obtain ⟨b, off, rfl, hbl, hcap, hc1, hc2⟩ := HP.out.1.at hc
            have hok2 := HP.out.2.1 c (List.mem_of_getElem? hc)
            have c1 := (HH.out.2.cell (p := ⟨b, off + k * 6 + 1, none⟩) hbl).trans hc1
            have c2 := (HH.out.2.cell (p := ⟨b, off + k * 6 + 2, none⟩) hbl).trans hc2
            have a1 := hok2.a1
            have a2 := hok2.a2
            have hs2 := hok2.s
            have i1 : (0 : Int) ≤ (k : Int) := by omega
            have i2 : (k : Int) < (ps.length : Int) := by omega
            have HN := Lib.hid hnext
            clear hnext hok hc hc1 hc2 hok2
            by_cases hpk : pickN c.a 6 = a
            · have hpk2 : ((pickN c.a 6 : Int) == (a : Int)) = true := by simp [hpk]
              have HPK := Lib.hid hpk
              clear hpk
              go_wp2_with (first
                | (go_at_call 17; refine (pick_any c.a a1 a2 6 (by decide) (by decide) _).mono ?_; rintro e w2 ⟨rfl, rfl⟩)
                | (go_at_call 18; refine (full_held HH.out.1 c.s hs2).mono ?_; rintro e w2 ⟨rfl, hT⟩))
              go_roundw
              case rel =>
                refine ⟨k + 1, by go_num, by omega, by omega, ?_, hT.1, HH.out.2.trans (hT.2.below (fun k hk => by omega) HH.out.2.size)⟩
                rw [HN.out, HPK.out]; simp
              case measure => simp [intOf]; omega
            · have hpk2 : ((pickN c.a 6 : Int) == (a : Int)) = false := by rw [beq_eq_false_iff_ne]; omega
              have HPK := Lib.hid hpk
              clear hpk
              go_wp2_with (go_at_call 17; refine (pick_any c.a a1 a2 6 (by decide) (by decide) _).mono ?_; rintro e w2 ⟨rfl, rfl⟩)
              go_roundw
              case rel =>
                refine ⟨k + 1, by go_num, by omega, by omega, ?_, HH.out⟩
                rw [HN.out, beq_eq_false_iff_ne.2 HPK.out]; rfl
              case measure => simp [intOf]; omega
        · have hall : okL x t a (ps.take k) = true := by
            rcases HT2.out with h | ⟨i, c, hi8, hic, h1, h2⟩
            · unfold okL; rw [h]; simp
            · have hil : i < ps.length := (List.getElem?_eq_some_iff.1 hic).1
              have : c ∈ ps.take k := by
                refine List.mem_iff_getElem?.2 ⟨i, ?_⟩
                rw [List.getElem?_take, if_pos (by omega)]; exact hic
              unfold okL
              rw [List.any_eq_true.2 ⟨c, this, by rw [h1, h2]; simp⟩, Bool.or_true]
          rw [hall]
          clear hall
          rcases (show (¬ k < ps.length) ∨ (k < ps.length ∧ ¬ k < 8) by omega) with h | ⟨h, h'⟩
          all_goals clear hin
          all_goals go_wp2
          all_goals
            go_roundw
            case rel => exact ⟨a + 1, by go_num, by omega, HH.out⟩
            case measure => simp [intOf]; omega
    · obtain rfl : a = 6 := by omega
      go_wp2_with (go_at_call 15; refine (pending_held (i := 0) HH.out.1 rfl).mono ?_; rw [HDP.out]; rintro e w3' ⟨rfl, rfl⟩)
      go_ret
      exact ⟨rfl, HH.out.2⟩
end Go.Proofs.Ythmpdnndfgmmfaa.Disk
