/- Layer 2: the walk of Crash. -/
import Derived.Test.YthmpdnndfgmmfaaDiskSync
namespace Go.Proofs.Ythmpdnndfgmmfaa.Disk
open Go.RowKit

attribute [local go_sem] Oper.semAt_some

def Dk.picked (D : Dk) (xs : List Int) : List (Nat × List UInt8) := xs.map fun k => D.pend.getD k.toNat (0, zeros)
def Dk.crash (D : Dk) (xs : List Int) : Dk := { D with kept := (D.picked xs).foldl layK D.kept, pend := [], cut := false }

theorem On.uncut {w : World} {F : Foot} {D : Dk} (h : On w F D) : On (w.setCell ⟨F.p, 2, none⟩ (.bool false)) F { D with cut := false } ∧ Moved (fun k => k = F.p) w (w.setCell ⟨F.p, 2, none⟩ (.bool false)) := by
  have hm : Moved (fun k => k = F.p) w (w.setCell ⟨F.p, 2, none⟩ (.bool false)) := Moved.setCell (fun k => k = F.p) w _ _ rfl
  exact ⟨h.field (D' := { D with cut := false }) F.pv (heap_setCell_same w F.p 2 _ h.box) (hm.block _ h.klt h.ne.symm) (ownsRow_kept h.row fun k hk => hm.block k (h.lt k (.inr (.inr hk))) (fun e => h.ap1 (by rw [hk, e])))
    ⟨h.ok.n1, h.ok.n2, h.ok.kept, h.ok.pend, h.ok.left, h.ok.few⟩ rfl rfl h.ap1 h.ap2, hm⟩

set_option maxRecDepth 100000 in
set_option maxHeartbeats 2000000 in
theorem crash_bad {w : World} {F : Foot} {D : Dk} (h : On w F D) (xs : List Int) (hlen : xs.length ≤ 1000) (hxb : ∀ x ∈ xs, -9223372036854775808 ≤ x ∧ x ≤ 9223372036854775807) (v : Value) (hv : IntsAt w v xs) (hk : okKeep D.pend.length xs = false) :
    Calls Try.prog 13 #[.pointer (some ⟨F.p, 0, none⟩), v] w fun e w' => e = .returned (.int .i64 21) ∧ Below w.heap.size w w' := by
  have hc := once_any xs hlen hxb v w hv D.pend.length h.ok.few
  rw [hk] at hc
  have HC := Lib.hid hc
  have c1 := h.c1
  obtain ⟨o, cap, hpv⟩ : ∃ o cap, F.pv = .slice o D.pend.length cap := by
    rcases h.pending with ⟨h1, h2⟩ | ⟨g, cap, h1, _⟩
    · exact ⟨none, 0, by rw [h1, h2]; rfl⟩
    · exact ⟨_, cap, h1⟩
  rw [hpv] at c1
  clear hc hk h hv hxb hpv
  go_enter Try.func13, Try.ntmps13
  go_wp2_with (go_at_call 27; refine HC.out.mono ?_; rintro e w' ⟨rfl, hB⟩)
  go_ret
  exact ⟨rfl, hB⟩

set_option maxRecDepth 100000 in
set_option maxHeartbeats 2000000 in
theorem crash_any {w : World} {F : Foot} {D : Dk} (h : On w F D) (xs : List Int) (hlen : xs.length ≤ 1000) (hxb : ∀ x ∈ xs, -9223372036854775808 ≤ x ∧ x ≤ 9223372036854775807) (v : Value) (hv : IntsAt w v xs) (hap : ∀ b, v.ownBlock = some b → ¬ F.has b) (hk : okKeep D.pend.length xs = true) :
    Calls Try.prog 13 #[.pointer (some ⟨F.p, 0, none⟩), v] w fun e w' => e = .returned (.int .i64 0) ∧ After F w (D.crash xs) w' := by
  have hc := once_any xs hlen hxb v w hv D.pend.length h.ok.few
  rw [hk] at hc
  have HC := Lib.hid hc
  have c1 := h.c1
  obtain ⟨o, cap, hpv⟩ : ∃ o cap, F.pv = .slice o D.pend.length cap := by
    rcases h.pending with ⟨h1, h2⟩ | ⟨g, cap, h1, _⟩
    · exact ⟨none, 0, by rw [h1, h2]; rfl⟩
    · exact ⟨_, cap, h1⟩
  rw [hpv] at c1
  clear hc
  have few := h.ok.few
  have hpl : ∀ x ∈ D.pend, x.1 < D.n ∧ x.2.length = 64 := h.ok.pend
  have HL := Lib.hid hpl
  have HO := Lib.hid h
  have HPV := Lib.hid hpv
  have hkk := of_decide_eq_true hk
  clear hk h hpl hpv
  rcases hv with ⟨_, _, rfl, rfl⟩ | ⟨b, off, vcap, rfl, hbl, hcap, hcl⟩
  · go_enter Try.func13, Try.ntmps13
    go_wp2_with fail
    refine HC.out.mono ?_
    rintro e w1 ⟨rfl, hB⟩
    have hO1 : On w1 F D := HO.out.keep fun k hk => hB.block k (HO.out.lt k hk)
    have c1' := hO1.c1
    have hz := hO1.fz 1
    have hz2 := hO1.fz 2
    have c2' := hO1.c2
    have HO1 := Lib.hid hO1
    have HB := Lib.hid hB
    clear hO1 hB hkk hxb hap
    go_wp2
    go_loopw [19] (fun p wr => p = .int .i64 0 ∧ wr = w1) (fun _ _ => 0)
    case atStart => exact ⟨rfl, rfl⟩
    case round =>
      obtain ⟨rfl, rfl⟩ := hrel
      go_wp2
      go_ret
      have hs := HO1.out.struck
      have hu := hs.1.uncut
      have hmb := (Moved.of_below HB.out).mono (T := F.has) (fun k hk e => by omega)
      refine ⟨rfl, _, hu.1, fun k hk => by simp [Value.ownBlock] at hk, (hmb.trans hs.2 fun k _ e => .inl e).trans hu.2 fun k _ e => .inl e⟩
  · have HX := Lib.hid hkk
    have HC2 := Lib.hid hcl
    have hbF : ¬ F.has b := hap b rfl
    clear hkk hcl hxb hap
    go_enter Try.func13, Try.ntmps13
    go_wp2_with fail
    refine HC.out.mono ?_
    rintro e w1 ⟨rfl, hB⟩
    have hO1 : On w1 F D := HO.out.keep fun k hk => hB.block k (HO.out.lt k hk)
    have HO1 := Lib.hid hO1
    have HB := Lib.hid hB
    clear hO1 hB
    go_wp2
    go_loopw [19] (fun p wr => ∃ i : Nat, p = .int .i64 i ∧ i ≤ xs.length ∧ On wr F { D with kept := (D.picked (xs.take i)).foldl layK D.kept } ∧ Moved F.has w wr) (fun p _ => xs.length - (intOf p).toNat)
    case atStart => exact ⟨0, rfl, by omega, HO1.out, (Moved.of_below HB.out).mono (fun k hk e => by omega)⟩
    case round =>
      obtain ⟨i, rfl, hi, hOi, hMi⟩ := hrel
      have HOi := Lib.hid hOi
      have HMi := Lib.hid hMi
      clear hOi hMi
      have c1' := HOi.out.c1
      rw [HPV.out] at c1'
      by_cases hlt : i < xs.length
      · obtain ⟨k, hk⟩ : ∃ k, xs[i]? = some k := ⟨_, List.getElem?_eq_getElem hlt⟩
        obtain ⟨hk0, hk1⟩ := HX.out.1 k (List.mem_of_getElem? hk)
        obtain ⟨q, rfl⟩ := Int.eq_ofNat_of_zero_le hk0
        have hql : q < D.pend.length := by omega
        obtain ⟨x, hx⟩ : ∃ x, D.pend[q]? = some x := ⟨_, List.getElem?_eq_getElem hql⟩
        obtain ⟨hx1, hx2⟩ := HL.out x (List.mem_of_getElem? hx)
        have hlen2 : (wrV x).length = 65 := by rw [wrV_len, hx2]
        have hcell : wr.cell? ⟨b, off + i, none⟩ = some (.int .i64 (q : Int)) := by
          rw [World.cell?_of_block (w := w) (HMi.out.block b hbl hbF)]
          exact HC2.out i _ hk
        rcases HOi.out.pending with ⟨_, hnil⟩ | ⟨g, cap2, hg, _, _, hrr⟩
        · have : D.pend = [] := hnil
          rw [this] at hql; exact absurd hql (by simp)
        · have hoc : o = some ⟨g, 0, none⟩ ∧ cap = cap2 := by
            rw [HPV.out] at hg; cases hg; exact ⟨rfl, rfl⟩
          obtain ⟨rfl, rfl⟩ := hoc
          have H1 := Lib.hid (hrr q x hx)
          have hin : (Try.prog.info? 63).map (·.size) = some (wrV x).length := by rw [hlen2]; kernel_rfl
          have H2 := Lib.hid hin
          have hpk : D.picked (xs.take (i + 1)) = D.picked (xs.take i) ++ [x] := by
            rw [take_snoc hk]
            unfold Dk.picked
            rw [List.map_append]
            simp [List.getD, hx]
          have HX2 := Lib.hid (And.intro hpk (And.intro hx1 hx2))
          clear hk hx hx1 hx2 hlen2 hin hpk hrr hg
          go_wp2_with (first
            | (refine wpList_load_mid rfl 63 _ rfl g (q * 65) rfl (wrV x) _ H1.out Try.underlying63 rfl H2.out ?_)
            | (go_at_call 28; refine (lay_any HOi.out x HX2.out.2.1 HX2.out.2.2).mono ?_; rintro e w3 ⟨⟨v, rfl⟩, hO3, hM3⟩))
          go_roundw
          case rel =>
            refine ⟨i + 1, by go_num, by omega, ?_, HMi.out.trans hM3 fun _ _ e => .inr (.inl e)⟩
            rw [HX2.out.1, List.foldl_append]; exact hO3
          case measure => simp [intOf]; omega
      · obtain rfl : i = xs.length := by omega
        have hz := HOi.out.fz 1
        have hz2 := HOi.out.fz 2
        have c2' := HOi.out.c2
        go_wp2
        go_ret
        have hs := HOi.out.struck
        have hu := hs.1.uncut
        have hD : D.crash xs = { D with kept := (D.picked (xs.take xs.length)).foldl layK D.kept, pend := [], cut := false } := by unfold Dk.crash; rw [List.take_length]
        rw [hD]
        refine ⟨rfl, _, hu.1, fun k hk => by simp [Value.ownBlock] at hk, (HMi.out.trans hs.2 fun k _ e => .inl e).trans hu.2 fun k _ e => .inl e⟩
end Go.Proofs.Ythmpdnndfgmmfaa.Disk
