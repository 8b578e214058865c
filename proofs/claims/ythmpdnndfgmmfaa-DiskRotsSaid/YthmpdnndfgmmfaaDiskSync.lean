/- Layer 2: the walk of Sync. -/
import Derived.Test.YthmpdnndfgmmfaaDiskRot
namespace Go.Proofs.Ythmpdnndfgmmfaa.Disk
open Go.RowKit

attribute [local go_sem] Oper.semAt_some

def Dk.sync (D : Dk) : Dk := { D.spent with kept := D.pend.foldl layK D.kept, pend := [] }
theorem Dk.spent_pend (D : Dk) : D.spent.pend = D.pend := by unfold Dk.spent; split <;> rfl
theorem Dk.spent_kept (D : Dk) : D.spent.kept = D.kept := by unfold Dk.spent; split <;> rfl
theorem Dk.spent_n (D : Dk) : D.spent.n = D.n := by unfold Dk.spent; split <;> rfl

theorem On.pend_at {w : World} {F : Foot} {D : Dk} (h : On w F D) {g n cap : Nat} (hp : F.pv = .slice (some ⟨g, 0, none⟩) n cap) : ∀ i x, D.pend[i]? = some x → w.rangeAt g (i * 65) (wrV x) := by
  rcases h.pending with ⟨h1, h2⟩ | ⟨g', cap', h1, _, _, h4⟩
  · rw [h1] at hp; cases hp
  · rw [h1] at hp; cases hp; exact h4

/-- What is pending is struck. -/
theorem On.struck {w : World} {F : Foot} {D : Dk} (h : On w F D) : On (w.setCell ⟨F.p, 1, none⟩ (.slice none 0 0)) { F with pv := .slice none 0 0 } { D with pend := [] } ∧ Moved (fun k => k = F.p) w (w.setCell ⟨F.p, 1, none⟩ (.slice none 0 0)) := by
  have hm : Moved (fun k => k = F.p) w (w.setCell ⟨F.p, 1, none⟩ (.slice none 0 0)) := Moved.setCell (fun k => k = F.p) w _ _ rfl
  refine ⟨h.field (D' := { D with pend := [] }) _ (heap_setCell_same w F.p 1 _ h.box) (hm.block _ h.klt h.ne.symm) (World.ownsRow_nil _ _ _ _) ⟨h.ok.n1, h.ok.n2, h.ok.kept, fun x hx => by simp at hx, h.ok.left, by simp⟩ rfl rfl (by simp [Value.ownBlock]) (by simp [Value.ownBlock]), hm⟩

theorem powered_on {w : World} {F : Foot} {D : Dk} (h : On w F D) (hp : D.powered = true) :
    Calls Try.prog 31 #[.pointer (some ⟨F.p, 0, none⟩)] w fun e w' => e = .returned (.bool true) ∧ On w' F D.spent ∧ Moved (fun k => k = F.p) w w' := by
  have := powered_any h
  simp only [hp, if_true] at this
  exact this
theorem powered_off {w : World} {F : Foot} {D : Dk} (h : On w F D) (hp : D.powered = false) :
    Calls Try.prog 31 #[.pointer (some ⟨F.p, 0, none⟩)] w fun e w' => e = .returned (.bool false) ∧ On w' F D ∧ Moved (fun k => k = F.p) w w' := by
  have := powered_any h
  rw [hp] at this
  exact this

/-- A write copied into a new block. -/
theorem copied (w : World) (x : Nat × List UInt8) (hx : x.2.length = 64) : (w.alloc (.cells (wrV (0, zeros)).toArray 63)).there w.heap.size 0 (wrV x).toArray.size ∧
    ((w.alloc (.cells (wrV (0, zeros)).toArray 63)).setCells w.heap.size 0 (wrV x)).rangeAt w.heap.size 0 (wrV x) ∧ Moved (fun k => k = w.heap.size) w ((w.alloc (.cells (wrV (0, zeros)).toArray 63)).setCells w.heap.size 0 (wrV x)) := by
  have hl : (wrV x).length = 65 := by rw [wrV_len, hx]
  have h1 : (w.alloc (.cells (wrV (0, zeros)).toArray 63)).there w.heap.size 0 (wrV x).length := by rw [hl]; exact there_new w (wrV (0, zeros)) _
  refine ⟨by rw [show (wrV x).toArray.size = (wrV x).length by simp]; exact h1, World.rangeAt_setCells_same _ _ _ _ h1, ?_⟩
  exact (Moved.alloc (fun k => k = w.heap.size) w _).trans (moved_setCells (fun k => k = w.heap.size) _ rfl _ _ _) fun _ _ x => x

set_option maxRecDepth 100000 in
set_option maxHeartbeats 2000000 in
theorem sync_off {w : World} {F : Foot} {D : Dk} (h : On w F D) (hp : D.powered = false) :
    Calls Try.prog 20 #[.pointer (some ⟨F.p, 0, none⟩)] w fun e w' => e = .returned (.int .i64 22) ∧ After F w D w' := by
  have HC := Lib.hid (powered_off h hp)
  clear hp h
  go_enter Try.func20, Try.ntmps20
  go_wp2_with (go_at_call 31; refine HC.out.mono ?_; rintro e w' ⟨rfl, hO, hM⟩)
  go_ret
  exact ⟨rfl, F.pv, hO, fun k hk => .inl hk, hM.mono fun k _ e => .inl e⟩

set_option maxRecDepth 100000 in
set_option maxHeartbeats 2000000 in
theorem sync_any {w : World} {F : Foot} {D : Dk} (h : On w F D) (hp : D.powered = true) :
    Calls Try.prog 20 #[.pointer (some ⟨F.p, 0, none⟩)] w fun e w' => e = .returned (.int .i64 0) ∧ After F w D.sync w' := by
  have HC := Lib.hid (powered_on h hp)
  have few := h.ok.few
  clear hp
  rcases h.pending with ⟨hpv, hnil⟩ | ⟨g, cap, hpv, hg, hcap, hr⟩
  · clear h
    have HN := Lib.hid (And.intro hpv hnil)
    clear hnil hpv
    go_enter Try.func20, Try.ntmps20
    go_wp2_with fail
    refine HC.out.mono ?_
    rintro e w1 ⟨rfl, hO, hM⟩
    have c1 := hO.c1
    rw [HN.out.1] at c1
    have hz := hO.fz 1
    have HO := Lib.hid hO
    have HM := Lib.hid hM
    clear hO hM
    go_wp2
    go_loopw [15] (fun p wr => p = .int .i64 0 ∧ wr = w1) (fun _ _ => 0)
    case atStart => exact ⟨rfl, rfl⟩
    case round =>
      obtain ⟨rfl, rfl⟩ := hrel
      go_wp2
      go_ret
      have hs := HO.out.struck
      have hD : D.sync = { D.spent with pend := [] } := by unfold Dk.sync; rw [HN.out.2, ← Dk.spent_kept]; rfl
      rw [hD]
      exact ⟨rfl, _, hs.1, fun k hk => by simp [Value.ownBlock] at hk, (HM.out.trans hs.2 fun _ _ x => x).mono fun k _ e => .inl e⟩
  · have HP := Lib.hid hpv
    have hpl : ∀ x ∈ D.pend, x.1 < D.n ∧ x.2.length = 64 := h.ok.pend
    have HL := Lib.hid hpl
    clear h hr hpv hpl
    go_enter Try.func20, Try.ntmps20
    go_wp2_with fail
    refine HC.out.mono ?_
    rintro e w1 ⟨rfl, hO, hM⟩
    have c1 := hO.c1
    rw [HP.out] at c1
    have HO := Lib.hid hO
    have HM := Lib.hid hM
    clear hO hM
    go_wp2
    go_loopw [15] (fun p wr => ∃ i : Nat, p = .int .i64 i ∧ i ≤ D.pend.length ∧ On wr F { D.spent with kept := (D.pend.take i).foldl layK D.kept } ∧ Moved F.has w wr) (fun p _ => D.pend.length - (intOf p).toNat)
    case atStart =>
      refine ⟨0, rfl, by omega, ?_, HM.out.mono fun k _ e => .inl e⟩
      rw [List.take_zero, List.foldl_nil, ← Dk.spent_kept]
      exact HO.out
    case round =>
      obtain ⟨i, rfl, hi, hOi, hMi⟩ := hrel
      have HOi := Lib.hid hOi
      have HMi := Lib.hid hMi
      clear hOi hMi
      by_cases hlt : i < D.pend.length
      · obtain ⟨x, hx⟩ : ∃ x, D.pend[i]? = some x := ⟨_, List.getElem?_eq_getElem hlt⟩
        obtain ⟨hx1, hx2⟩ := HL.out x (List.mem_of_getElem? hx)
        have hlen : (wrV x).length = 65 := by rw [wrV_len, hx2]
        have hsp : D.spent.pend[i]? = some x := by rw [Dk.spent_pend]; exact hx
        have H1 := Lib.hid (HOi.out.pend_at HP.out i x hsp)
        have hin : (Try.prog.info? 63).map (·.size) = some (wrV x).length := by rw [hlen]; kernel_rfl
        have hin2 : (Try.prog.info? 63).map (·.size) = some (wrV x).toArray.size := by rw [show (wrV x).toArray.size = 65 by simp [hlen]]; kernel_rfl
        have H2 := Lib.hid hin
        have H3 := Lib.hid hin2
        have H4 := Lib.hid (copied wr x hx2)
        have HX := Lib.hid (And.intro hx (And.intro hx1 hx2))
        have hzv := zeroWr
        clear hx hx1 hx2 hlen hsp hin hin2
        go_wp2_with (first
          | (refine wpList_load_mid rfl 63 _ rfl g (i * 65) rfl (wrV x) _ H1.out Try.underlying63 rfl H2.out ?_)
          | (refine wpList_store_mid rfl 63 _ _ rfl wr.heap.size 0 (wrV x).toArray rfl rfl H4.out.1 H3.out (all_oneCell_toArray (wrV_one _)) ?_)
          | (refine wpList_load_mid rfl 63 _ rfl wr.heap.size 0 rfl (wrV x) _ H4.out.2.1 Try.underlying63 rfl H2.out ?_)
          | (go_at_call 28; refine (lay_any (HOi.out.moved H4.out.2.2 (fun k hk e => by have := HOi.out.lt k hk; omega)) x (by rw [show (_ : Dk).n = D.n from Dk.spent_n D]; exact HX.out.2.1) HX.out.2.2).mono ?_; rintro e w3 ⟨⟨v, rfl⟩, hO3, hM3⟩))
        go_roundw
        case rel =>
          refine ⟨i + 1, by go_num, by omega, ?_, ?_⟩
          · rw [take_snoc HX.out.1, List.foldl_append]; exact hO3
          · refine (HMi.out.trans H4.out.2.2 ?_).trans hM3 (fun _ _ e => .inr (.inl e))
            intro k hk e
            have := HMi.out.size
            omega
        case measure => simp [intOf]; omega
      · obtain rfl : i = D.pend.length := by omega
        have c1 := HOi.out.c1
        rw [HP.out] at c1
        have hz := HOi.out.fz 1
        go_wp2
        go_ret
        have hs := HOi.out.struck
        have hD : D.sync = { D.spent with kept := (D.pend.take D.pend.length).foldl layK D.kept, pend := [] } := by unfold Dk.sync; rw [List.take_length]
        rw [hD]
        exact ⟨rfl, _, hs.1, fun k hk => by simp [Value.ownBlock] at hk, HMi.out.trans hs.2 fun k _ e => .inl e⟩
end Go.Proofs.Ythmpdnndfgmmfaa.Disk
