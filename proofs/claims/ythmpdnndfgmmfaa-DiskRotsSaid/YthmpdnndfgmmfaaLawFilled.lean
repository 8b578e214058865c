/- Layer 2's laws: filled. -/
import Derived.Test.YthmpdnndfgmmfaaLawAll
namespace Go.Proofs.Ythmpdnndfgmmfaa.Disk
open Go.RowKit

attribute [local go_sem] Oper.semAt_some

/-- A call of raw numbers, as its cells hold it. -/
structure CallD where
  k : Value
  a : Int
  s : ByteArray
  pl : Value
  ma : Value
  kp : Value
def CallD.cells (c : CallD) : List Value := [c.k, .int .i64 c.a, .string c.s, c.pl, c.ma, c.kp]
structure CallD.Ok (c : CallD) : Prop where
  a1 : -9223372036854775808 ≤ c.a
  a2 : c.a ≤ 9223372036854775807
  s : c.s.size ≤ 9223372036854775807
  one : ∀ v ∈ c.cells, v.oneCell' = true
def CallsAt (w : World) (v : Value) (cs : List CallD) : Prop :=
  (∃ a cap, v = .slice a 0 cap ∧ cs = []) ∨ ∃ b o cap, v = .slice (some ⟨b, o, none⟩) cs.length cap ∧ b < w.heap.size ∧ cs.length ≤ cap ∧ ∀ i c, cs[i]? = some c → w.rangeAt b (o + i * 6) c.cells
theorem CallsAt.val {w : World} {v : Value} {cs : List CallD} (h : CallsAt w v cs) : ∃ o cap, v = .slice o cs.length cap := by
  rcases h with ⟨a, cap, rfl, rfl⟩ | ⟨b, o, cap, rfl, _⟩
  · exact ⟨a, cap, rfl⟩
  · exact ⟨_, cap, rfl⟩
theorem CallsAt.at {w : World} {o : Option Addr} {n cap : Nat} {cs : List CallD} (h : CallsAt w (.slice o n cap) cs) {i : Nat} {c : CallD} (hi : cs[i]? = some c) :
    ∃ b off, o = some ⟨b, off, none⟩ ∧ b < w.heap.size ∧ cs.length ≤ cap ∧ w.cell? ⟨b, off + i * 6 + 1, none⟩ = some (.int .i64 c.a) ∧ w.cell? ⟨b, off + i * 6 + 2, none⟩ = some (.string c.s) := by
  rcases h with ⟨_, _, _, rfl⟩ | ⟨b, off, cap', h1, h2, h3, h4⟩
  · simp at hi
  · cases h1
    exact ⟨b, off, rfl, h2, h3, h4 i c hi 1 _ rfl, h4 i c hi 2 _ rfl⟩
theorem CallsAt.below {w w' : World} {v : Value} {cs : List CallD} (h : CallsAt w v cs) (hb : Below w.heap.size w w') : CallsAt w' v cs := by
  rcases h with h | ⟨b, off, cap', h1, h2, h3, h4⟩
  · exact .inl h
  · exact .inr ⟨b, off, cap', h1, by have := hb.size; omega, h3, fun i c hi => rangeAt_kept (h4 i c hi) (hb.block b h2)⟩
theorem CallsAt.own {w : World} {v : Value} {cs : List CallD} (h : CallsAt w v cs) (hn : cs ≠ []) : ∀ b, v.ownBlock = some b → b < w.heap.size := by
  rcases h with ⟨_, _, _, h⟩ | ⟨b, off, cap', rfl, h2, _⟩
  · exact absurd h hn
  · intro b hb; simp [Value.ownBlock] at hb; omega
def wrOf (c : CallD) : Nat × List UInt8 := (pickN c.a 6, fullB c.s)
/-- A disk of six sectors, these writes synced, and those pending. -/
def filledD (ss ps : List CallD) : Dk := ⟨6, ((ss.take 8).map wrOf).foldl layK (fun _ => zeros), (ps.take 8).map wrOf, false, 0⟩

theorem Then.trans {a b c : World} {A : Nat → Prop} {L M : List (Nat × Dk)} (h : Then a b A L) (k : Then b c A M) : Then a c A M := ⟨k.1, h.2.trans k.2 fun _ _ e => e⟩
theorem Then.cell {a b : World} {A : Nat → Prop} {L : List (Nat × Dk)} (h : Then a b A L) {p : Addr} {v : Value} (hA : A p.block) (hc : a.cell? p = some v) : b.cell? p = some v := by
  rw [World.cell?_of_block (w := a) (h.2.block _ (Kit.lt_of_cell hc) (fun q => q hA))]; exact hc

theorem Held.drew {w : World} {A : Nat → Prop} {L : List (Nat × Dk)} (h : Held w A L) : Then w w.drew A L := h.grow (Below.refl _ w).drew
theorem set_last {α : Type} (L : List α) (x y : α) : (L ++ [x]).set L.length y = L ++ [y] := by simp
theorem last_at {α : Type} (L : List α) (x : α) : (L ++ [x])[L.length]? = some x := by simp

theorem write_wr (K : Nat → List UInt8) (l : List (Nat × List UInt8)) (c : CallD) : (Dk.mk 6 K l false 0).write (pickN c.a 6 : Int) (strB (fullB c.s)) = (⟨6, K, l ++ [wrOf c], false, 0⟩, 0) := by
  have h := pickN_lt c.a (n := 6) (by decide)
  have hk : okWrite (Dk.mk 6 K l false 0) (pickN c.a 6 : Int) (strB (fullB c.s)) = true := by
    refine decide_eq_true ⟨by omega, by show (pickN c.a 6 : Int) < (6 : Nat); omega, ?_⟩
    show (fullB c.s).toArray.size = 64
    rw [List.size_toArray, fullB_len]
  unfold Dk.write
  rw [if_pos hk, if_pos (show (Dk.mk 6 K l false 0).powered = true from rfl)]
  unfold Dk.wrote Dk.spent wrOf strB
  simp

set_option maxRecDepth 100000 in
set_option maxHeartbeats 4000000 in
theorem filled_held {w : World} {A : Nat → Prop} {L : List (Nat × Dk)} (h : Held w A L) (sv pv : Value) (ss ps : List CallD) (hs : CallsAt w sv ss) (hp : CallsAt w pv ps) (hso : ∀ c ∈ ss, c.Ok) (hpo : ∀ c ∈ ps, c.Ok)
    (hsA : ss ≠ [] → ∀ b, sv.ownBlock = some b → A b) (hpA : ps ≠ [] → ∀ b, pv.ownBlock = some b → A b) (hsl : ss.length ≤ 9223372036854775807) (hpl : ps.length ≤ 9223372036854775807) :
    Calls Try.prog 12 #[sv, pv] w fun e w' => ∃ p, e = .returned (.pointer (some ⟨p, 0, none⟩)) ∧ w.heap.size ≤ p ∧ Then w w' A (L ++ [(p, filledD ss ps)]) := by
  obtain ⟨so, scap, rfl⟩ := hs.val
  obtain ⟨po, pcap, rfl⟩ := hp.val
  have HS := Lib.hid (And.intro hs (And.intro hso hsA))
  have HP := Lib.hid (And.intro hp (And.intro hpo hpA))
  have HH := Lib.hid h
  clear hs hp hso hpo hsA hpA h
  go_enter Try.func12, Try.ntmps12
  go_wp2_with fail
  refine (new_held HH.out 6 (by decide) (by decide)).mono ?_
  rintro e w1 ⟨p, rfl, hwp, hT1⟩
  have HT1 := Lib.hid hT1; clear hT1
  go_wp2
  go_loopw [7] (fun q wr => ∃ i : Nat, q = .int .i64 i ∧ i ≤ 8 ∧ i ≤ ss.length ∧ Then w wr A (L ++ [(p, ⟨6, fun _ => zeros, (ss.take i).map wrOf, false, 0⟩)])) (fun q _ => 8 - (intOf q).toNat)
  case atStart => exact ⟨0, rfl, by omega, by omega, HT1.out⟩
  case round =>
    obtain ⟨i, rfl, hi, hi2, hT⟩ := hrel
    have HT := Lib.hid hT; clear hT
    by_cases hin : i < ss.length ∧ i < 8
    · obtain ⟨hlt, h8⟩ := hin
      · obtain ⟨c, hc⟩ : ∃ c, ss[i]? = some c := ⟨_, List.getElem?_eq_getElem hlt⟩
        obtain ⟨b, off, rfl, hbl, hcap, hc1, hc2⟩ := HS.out.1.at hc
        have hok := HS.out.2.1 c (List.mem_of_getElem? hc)
        have hbA : A b := HS.out.2.2 (fun e => by rw [e] at hc; simp at hc) b rfl
        have c1 : wr.cell? ⟨b, off + i * 6 + 1, none⟩ = some (.int .i64 c.a) := HT.out.cell hbA hc1
        have c2 : wr.cell? ⟨b, off + i * 6 + 2, none⟩ = some (.string c.s) := HT.out.cell hbA hc2
        have hw := write_wr (fun _ => zeros) ((ss.take i).map wrOf) c
        have HW := Lib.hid (And.intro hw (And.intro hok (And.intro hc hbA)))
        have a1 := hok.a1
        have a2 := hok.a2
        have hq := pickN_lt c.a (n := 6) (by decide)
        have hsz := hok.s
        have i1 : (0 : Int) ≤ (i : Int) := by omega
        have i2 : (i : Int) < (ss.length : Int) := by omega
        have hLi := last_at L (p, (⟨6, fun _ => zeros, (ss.take i).map wrOf, false, 0⟩ : Dk))
        have HL := Lib.hid hLi
        have hfew : ((ss.take i).map wrOf).length < 1000 := by simp; omega
        have HF := Lib.hid hfew
        clear hc hc1 hc2 hok hw hLi hfew
        go_upto_region 5 with fail
        go_region_held3 (fun w' => w'.cell? ⟨b, off + i * 6 + 1, none⟩ = some (.int .i64 c.a) ∧ w'.cell? ⟨b, off + i * 6 + 2, none⟩ = some (.string c.s))
          (first
            | exact ⟨c1, c2⟩
            | exact ⟨(hB2.cell (p := ⟨b, off + i * 6 + 1, none⟩) (Kit.lt_of_cell c1)).trans c1, (hB2.cell (p := ⟨b, off + i * 6 + 2, none⟩) (Kit.lt_of_cell c2)).trans c2⟩
            | exact ⟨hT3.cell HW.out.2.2.2 ((hB2.cell (p := ⟨b, off + i * 6 + 1, none⟩) (Kit.lt_of_cell c1)).trans c1), hT3.cell HW.out.2.2.2 ((hB2.cell (p := ⟨b, off + i * 6 + 2, none⟩) (Kit.lt_of_cell c2)).trans c2)⟩)
          (first
            | (go_at_call 17; refine (pick_any c.a a1 a2 6 (by decide) (by decide) _).mono ?_; rintro e w2 ⟨rfl, rfl⟩)
            | (go_at_call 18; refine (full_any c.s hsz _).mono ?_; rintro e w2 ⟨rfl, hB2⟩)
            | (go_at_call 21; refine (write_held ((HT.out.1.drew.1.grow hB2).1) HL.out _ (by omega) (by omega) _ HF.out).mono ?_; rintro e w3 ⟨rfl, hT3⟩))
        all_goals go_wp2
        all_goals
          go_roundw
          case rel =>
            refine ⟨i + 1, by go_num, by omega, by omega, ?_⟩
            have hT4 := ((HT.out.trans HT.out.1.drew).trans (HT.out.1.drew.1.grow hB2)).trans hT3
            rw [set_last, HW.out.1] at hT4
            rw [take_snoc HW.out.2.2.1, List.map_append]
            exact hT4
          case measure => simp [intOf]; omega
    · have hmap : (ss.take i).map wrOf = (ss.take 8).map wrOf := by
        rcases Nat.lt_or_ge i ss.length with h1 | h1
        · rw [show i = 8 by omega]
        · rw [List.take_of_length_le h1, List.take_of_length_le (by omega)]
      have hT8 := HT.out
      rw [hmap] at hT8
      have HT8 := Lib.hid hT8
      clear hT8 hmap
      rcases (show (¬ i < ss.length) ∨ (i < ss.length ∧ ¬ i < 8) by omega) with h | ⟨h, h'⟩
      all_goals clear hin
      all_goals go_upto_region 6 with fail
      all_goals go_wp2_with fail
      all_goals
        refine (sync_held HT8.out.1 (last_at L (p, (⟨6, fun _ => zeros, (ss.take 8).map wrOf, false, 0⟩ : Dk)))).mono ?_
        rintro e w2 ⟨rfl, hT2⟩
        rw [set_last] at hT2
        have HT2 := Lib.hid (show Then w w2 A (L ++ [(p, (⟨6, ((ss.take 8).map wrOf).foldl layK (fun _ => zeros), [], false, 0⟩ : Dk))]) from HT8.out.trans hT2)
        clear hT2
      all_goals go_wp2
      all_goals
        go_loopw [8] (fun q wr => ∃ i : Nat, q = .int .i64 i ∧ i ≤ 8 ∧ i ≤ ps.length ∧ Then w wr A (L ++ [(p, ⟨6, ((ss.take 8).map wrOf).foldl layK (fun _ => zeros), (ps.take i).map wrOf, false, 0⟩)])) (fun q _ => 8 - (intOf q).toNat)
        case atStart => exact ⟨0, rfl, by omega, by omega, HT2.out⟩
        case round =>
          obtain ⟨i, rfl, hi, hi2, hT⟩ := hrel
          have HT := Lib.hid hT; clear hT
          by_cases hin : i < ps.length ∧ i < 8
          · obtain ⟨hlt, h8⟩ := hin
            obtain ⟨c, hc⟩ : ∃ c, ps[i]? = some c := ⟨_, List.getElem?_eq_getElem hlt⟩
            obtain ⟨b, off, rfl, hbl, hcap, hc1, hc2⟩ := HP.out.1.at hc
            have hok := HP.out.2.1 c (List.mem_of_getElem? hc)
            have hbA : A b := HP.out.2.2 (fun e => by rw [e] at hc; simp at hc) b rfl
            have c1 : wr.cell? ⟨b, off + i * 6 + 1, none⟩ = some (.int .i64 c.a) := HT.out.cell hbA hc1
            have c2 : wr.cell? ⟨b, off + i * 6 + 2, none⟩ = some (.string c.s) := HT.out.cell hbA hc2
            have hw := write_wr (((ss.take 8).map wrOf).foldl layK (fun _ => zeros)) ((ps.take i).map wrOf) c
            have HW := Lib.hid (And.intro hw (And.intro hok (And.intro hc hbA)))
            have a1 := hok.a1
            have a2 := hok.a2
            have hq := pickN_lt c.a (n := 6) (by decide)
            have hsz := hok.s
            have i1 : (0 : Int) ≤ (i : Int) := by omega
            have i2 : (i : Int) < (ps.length : Int) := by omega
            have hLi := last_at L (p, (⟨6, ((ss.take 8).map wrOf).foldl layK (fun _ => zeros), (ps.take i).map wrOf, false, 0⟩ : Dk))
            have HL := Lib.hid hLi
            have hfew : ((ps.take i).map wrOf).length < 1000 := by simp; omega
            have HF := Lib.hid hfew
            clear hc hc1 hc2 hok hw hLi hfew
            go_upto_region 10 with fail
            go_region_held3 (fun w' => w'.cell? ⟨b, off + i * 6 + 1, none⟩ = some (.int .i64 c.a) ∧ w'.cell? ⟨b, off + i * 6 + 2, none⟩ = some (.string c.s))
              (first
                | exact ⟨c1, c2⟩
                | exact ⟨(hB2.cell (p := ⟨b, off + i * 6 + 1, none⟩) (Kit.lt_of_cell c1)).trans c1, (hB2.cell (p := ⟨b, off + i * 6 + 2, none⟩) (Kit.lt_of_cell c2)).trans c2⟩
                | exact ⟨hT3.cell HW.out.2.2.2 ((hB2.cell (p := ⟨b, off + i * 6 + 1, none⟩) (Kit.lt_of_cell c1)).trans c1), hT3.cell HW.out.2.2.2 ((hB2.cell (p := ⟨b, off + i * 6 + 2, none⟩) (Kit.lt_of_cell c2)).trans c2)⟩)
              (first
                | (go_at_call 17; refine (pick_any c.a a1 a2 6 (by decide) (by decide) _).mono ?_; rintro e w2 ⟨rfl, rfl⟩)
                | (go_at_call 18; refine (full_any c.s hsz _).mono ?_; rintro e w2 ⟨rfl, hB2⟩)
                | (go_at_call 21; refine (write_held ((HT.out.1.drew.1.grow hB2).1) HL.out _ (by omega) (by omega) _ HF.out).mono ?_; rintro e w3 ⟨rfl, hT3⟩))
            all_goals go_wp2
            all_goals
              go_roundw
              case rel =>
                refine ⟨i + 1, by go_num, by omega, by omega, ?_⟩
                have hT4 := ((HT.out.trans HT.out.1.drew).trans (HT.out.1.drew.1.grow hB2)).trans hT3
                rw [set_last, HW.out.1] at hT4
                rw [take_snoc HW.out.2.2.1, List.map_append]
                exact hT4
              case measure => simp [intOf]; omega
          · have hmap : (ps.take i).map wrOf = (ps.take 8).map wrOf := by
              rcases Nat.lt_or_ge i ps.length with h1 | h1
              · rw [show i = 8 by omega]
              · rw [List.take_of_length_le h1, List.take_of_length_le (by omega)]
            have hT8 := HT.out
            rw [hmap] at hT8
            have HT8 := Lib.hid hT8
            clear hT8 hmap
            rcases (show (¬ i < ps.length) ∨ (i < ps.length ∧ ¬ i < 8) by omega) with h | ⟨h, h'⟩
            all_goals clear hin
            all_goals go_wp2
            all_goals go_ret
            all_goals exact ⟨p, rfl, hwp, HT8.out⟩
end Go.Proofs.Ythmpdnndfgmmfaa.Disk
