/- Layer 2: the walk of Rot. -/
import Derived.Test.YthmpdnndfgmmfaaDiskRead
import Derived.StillTailTactics
namespace Go.Proofs.Ythmpdnndfgmmfaa.Disk
open Go.RowKit

attribute [local go_sem] Oper.semAt_some

/-- One byte of a sector turned by a mask. -/
def turnS (s : List UInt8) (p : Nat) (m : UInt8) : List UInt8 := s.set p ((s.getD p 0) ^^^ m)
def Dk.rot (D : Dk) (a p : Nat) (m : UInt8) : Dk := { D with kept := fun i => if i = a then turnS (D.kept a) p m else D.kept i }
/-- What Rot tells. -/
def Dk.rotE (D : Dk) (a p m : Int) : Int := if 0 ≤ a ∧ a < D.n then if 0 ≤ p ∧ p < 64 ∧ 0 ≤ m ∧ m ≤ 255 then 0 else 2 else 20

theorem u8_xor_nat2 (a b : UInt8) : bits .xor .u8 (a.toNat : Int) (b.toNat : Int) = ((a ^^^ b).toNat : Int) := by
  have ha := a.toNat_lt
  have hb := b.toNat_lt
  have hx : a.toNat ^^^ b.toNat < 2 ^ 8 := Nat.xor_lt_two_pow ha hb
  rw [UInt8.toNat_xor]
  simp only [bits, BitVec.ofInt_natCast, BitVec.toNat_xor, BitVec.toNat_ofNat]
  have e1 : a.toNat % 2 ^ IntKind.u8.bits = a.toNat := Nat.mod_eq_of_lt ha
  have e2 : b.toNat % 2 ^ IntKind.u8.bits = b.toNat := Nat.mod_eq_of_lt hb
  rw [e1, e2, IntKind.wrap_u8]
  omega
theorem u8_wrap_byte (m : UInt8) : IntKind.u8.wrap (m.toNat : Int) = (m.toNat : Int) := by
  have := m.toNat_lt
  rw [IntKind.wrap_u8]; omega

theorem turnS_len (s : List UInt8) (p : Nat) (m : UInt8) : (turnS s p m).length = s.length := by unfold turnS; simp

theorem On.rotted {w : World} {F : Foot} {D : Dk} (h : On w F D) (a p : Nat) (m b : UInt8) (ha : a < D.n) (hp : p < 64) (hb : (D.kept a)[p]? = some b) : On (w.setCell ⟨F.kb, a * 64 + p, none⟩ (.int .u8 ((b.toNat ^^^ m.toNat : Nat) : Int))) F (D.rot a p m) := by
  have hm : Moved (fun k => k = F.kb) w (w.setCell ⟨F.kb, a * 64 + p, none⟩ (.int .u8 ((b.toNat ^^^ m.toNat : Nat) : Int))) := Moved.setCell (fun k => k = F.kb) w _ _ rfl
  have hthere : ∀ i, i < D.n → (w.setCell ⟨F.kb, a * 64 + p, none⟩ (.int .u8 ((b.toNat ^^^ m.toNat : Nat) : Int))).there F.kb (i * 64) 64 := fun i hi =>
    World.there_setCells (h.sec i hi).2 F.kb (a * 64 + p) [.int .u8 ((b.toNat ^^^ m.toNat : Nat) : Int)]
  have hpl : p < (D.kept a).length := by rw [h.ok.kept]; exact hp
  have hold : w.cell? ⟨F.kb, a * 64 + p, none⟩ = some (byteV b) := (h.sec a ha).1 p (byteV b) (by unfold secV; rw [List.getElem?_map, hb]; rfl)
  refine ⟨⟨h.ok.n1, h.ok.n2, fun i => ?_, h.ok.pend, h.ok.left, h.ok.few⟩, (hm.block _ h.plt h.ne).trans h.box, h.ne, fun i hi => ⟨?_, hthere i hi⟩, ownsRow_kept h.row fun k hk => hm.block k (h.lt k (.inr (.inr hk))) (fun e => h.ap2 (by rw [hk, e])), h.ap1, h.ap2⟩
  · show (if i = a then turnS (D.kept a) p m else D.kept i).length = 64
    split
    · rw [turnS_len]; exact h.ok.kept a
    · exact h.ok.kept i
  · show World.rangeAt _ _ _ (secV (if i = a then turnS (D.kept a) p m else D.kept i))
    intro j v hv
    by_cases e : i = a
    · subst e
      rw [if_pos rfl] at hv
      by_cases ej : j = p
      · subst ej
        rw [World.cell?_setCell_same _ _ _ hold, ← hv, ← UInt8.toNat_xor]
        unfold secV turnS
        rw [List.getElem?_map, List.getElem?_set_self hpl]
        simp [byteV, List.getD, hb]
      · rw [World.cell?_setCell_other _ _ _ _ (fun e => by have := congrArg Addr.off e; simp only at this; omega)]
        refine (h.sec i ha).1 j v ?_
        rw [← hv]
        unfold secV turnS
        rw [List.getElem?_map, List.getElem?_map, List.getElem?_set_ne (fun q => ej q.symm)]
    · rw [if_neg e] at hv
      have hj : j < 64 := by
        have := (List.getElem?_eq_some_iff.1 hv).1
        rw [secV_len, h.ok.kept] at this; exact this
      rw [World.cell?_setCell_other _ _ _ _ (fun q => by have := congrArg Addr.off q; simp only at this; omega)]
      exact (h.sec i hi).1 j v hv

set_option maxRecDepth 100000 in
set_option maxHeartbeats 2000000 in
theorem rot_bad {w : World} {F : Foot} {D : Dk} (h : On w F D) (a p m : Int) (h1 : -9223372036854775808 ≤ a ∧ a ≤ 9223372036854775807) (hbad : D.rotE a p m ≠ 0) :
    Calls Try.prog 22 #[.pointer (some ⟨F.p, 0, none⟩), .int .i64 a, .int .i64 p, .int .i64 m] w fun e w' => e = .returned (.int .i64 (D.rotE a p m)) ∧ w = w' := by
  have hc := has_any h a h1.1 h1.2
  by_cases hin : 0 ≤ a ∧ a < D.n
  · rw [decide_eq_true hin] at hc
    have HC := Lib.hid hc
    have hv : D.rotE a p m = 2 := by
      unfold Dk.rotE at hbad ⊢
      rw [if_pos hin] at hbad ⊢
      split at hbad
      · exact absurd rfl hbad
      · rename_i hq; rw [if_neg hq]
    have hn : ¬ (0 ≤ p ∧ p < 64 ∧ 0 ≤ m ∧ m ≤ 255) := by
      intro hq; unfold Dk.rotE at hv; rw [if_pos hin, if_pos hq] at hv; exact absurd hv (by decide)
    rw [hv]
    clear hc hv hbad hin h1 h
    by_cases q1 : p < 0
    · clear hn
      go_enter Try.func22, Try.ntmps22
      go_wp2_with (go_at_call 29; refine HC.out.mono ?_; rintro e w' ⟨rfl, rfl⟩)
      go_ret
      exact ⟨rfl, rfl⟩
    · by_cases q2 : 64 ≤ p
      · clear hn
        go_enter Try.func22, Try.ntmps22
        go_wp2_with (go_at_call 29; refine HC.out.mono ?_; rintro e w' ⟨rfl, rfl⟩)
        go_ret
        exact ⟨rfl, rfl⟩
      · by_cases q3 : m < 0
        · clear hn
          go_enter Try.func22, Try.ntmps22
          go_wp2_with (go_at_call 29; refine HC.out.mono ?_; rintro e w' ⟨rfl, rfl⟩)
          go_ret
          exact ⟨rfl, rfl⟩
        · have q4 : 255 < m := by omega
          clear hn
          go_enter Try.func22, Try.ntmps22
          go_wp2_with (go_at_call 29; refine HC.out.mono ?_; rintro e w' ⟨rfl, rfl⟩)
          go_ret
          exact ⟨rfl, rfl⟩
  · rw [decide_eq_false hin] at hc
    have HC := Lib.hid hc
    have hv : D.rotE a p m = 20 := by unfold Dk.rotE; rw [if_neg hin]
    rw [hv]
    clear hc hv hbad hin h1 h
    go_enter Try.func22, Try.ntmps22
    go_wp2_with (go_at_call 29; refine HC.out.mono ?_; rintro e w' ⟨rfl, rfl⟩)
    go_ret
    exact ⟨rfl, rfl⟩

set_option maxRecDepth 100000 in
set_option maxHeartbeats 2000000 in
theorem rot_any {w : World} {F : Foot} {D : Dk} (h : On w F D) (a p : Nat) (m : UInt8) (ha : a < D.n) (hp : p < 64) :
    Calls Try.prog 22 #[.pointer (some ⟨F.p, 0, none⟩), .int .i64 (a : Int), .int .i64 (p : Int), .int .i64 (m.toNat : Int)] w fun e w' => e = .returned (.int .i64 0) ∧ On w' F (D.rot a p m) ∧ Moved (fun k => k = F.kb) w w' := by
  have n2 := h.ok.n2
  have hc := has_any h (a : Int) (by omega) (by omega)
  rw [decide_eq_true (by omega)] at hc
  have HC := Lib.hid hc; clear hc
  have c0 := h.c0
  have hkl : (D.kept a).length = 64 := h.ok.kept a
  obtain ⟨b, hb⟩ : ∃ b, (D.kept a)[p]? = some b := ⟨_, List.getElem?_eq_getElem (by omega)⟩
  have cb : w.cell? ⟨F.kb, a * 64 + p, none⟩ = some (.int .u8 (b.toNat : Int)) := (h.sec a ha).1 p (byteV b) (by unfold secV; rw [List.getElem?_map, hb]; rfl)
  have fb : w.frozen? ⟨F.kb, a * 64 + p, none⟩ = false := ((h.sec a ha).2 p hp).2
  have hx := u8_xor_nat2 b m
  have hwm := u8_wrap_byte m
  have hm := m.toNat_lt
  have hbt := b.toNat_lt
  have k1 : (0 : Int) ≤ (p : Int) := by omega
  have k2 : (p : Int) < 64 := by omega
  have k3 : (0 : Int) ≤ (a : Int) := by omega
  have k4 : (a : Int) < (D.n : Int) := by omega
  have k5 : (0 : Int) ≤ (m.toNat : Int) := by omega
  have k6 : (m.toNat : Int) ≤ 255 := by omega
  have hH := Lib.hid (And.intro h hb)
  clear h hb
  go_enter Try.func22, Try.ntmps22
  go_wp2_with (go_at_call 29; refine HC.out.mono ?_; rintro e w' ⟨rfl, rfl⟩)
  go_still_tail 14, (by kernel_rfl)
  clear hwm hx
  go_wp2
  go_ret
  have h := hH.out.1
  have h2 : On w.drew F D := h.keep fun _ _ => rfl
  refine ⟨rfl, h2.rotted a p m b ha hp hH.out.2, ?_⟩
  have hm2 : Moved (fun k => k = F.kb) w w.drew := ⟨rfl, rfl, rfl, Nat.le_refl _, fun _ _ _ => rfl⟩
  exact hm2.trans (Moved.setCell (fun k => k = F.kb) _ _ _ rfl) fun _ _ x => x
end Go.Proofs.Ythmpdnndfgmmfaa.Disk
