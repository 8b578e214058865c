/- Layer 2: the walks of backward, its iterator, and there. -/
import Derived.Test.YthmpdnndfgmmfaaDiskHas
import Derived.Test.YthmpdnndfgmmfaaKit4
namespace Go.Proofs.Ythmpdnndfgmmfaa.Disk
open Go.RowKit Go.Shelf

attribute [local go_sem] Oper.semAt_some

theorem backward_any (p : Nat) (w : World) :
    Calls Try.prog 33 #[.pointer (some ⟨p, 0, none⟩)] w fun e w' => e = .returned (.func (.func 34) #[] #[.pointer (some ⟨w.heap.size, 0, none⟩)]) ∧ w' = w.alloc (.cells #[.pointer (some ⟨p, 0, none⟩)] 25) := by
  go_enter Try.func33, Try.ntmps33
  go_wp2
  go_ret
  exact ⟨rfl, rfl⟩

/-- A write, its bytes 64 whatever comes. -/
def fixW (x : Nat × List UInt8) : Nat × List UInt8 := if x.2.length = 64 then x else (x.1, zeros)
theorem fixW_len (x : Nat × List UInt8) : (fixW x).2.length = 64 := by
  unfold fixW; split
  · assumption
  · simp [zeros]
theorem fixW_eq {x : Nat × List UInt8} (h : x.2.length = 64) : fixW x = x := by unfold fixW; rw [if_pos h]
theorem fixW_at (x : Nat × List UInt8) : (fixW x).1 = x.1 := by unfold fixW; split <;> rfl
def encW (x : Nat × List UInt8) : Array Value := #[.agg (wrV (fixW x)).toArray]

/-- The blocks that meet S lie as they lay. -/
def KeepS (S : Nat → Prop) (W W' : World) : Prop := ∀ k, S k → W'.heap[k]? = W.heap[k]?
theorem KeepS.trans {S : Nat → Prop} {X Y Z : World} (h : KeepS S X Y) (k : KeepS S Y Z) : KeepS S X Z := fun i hi => (k i hi).trans (h i hi)

theorem drop_reverse {α : Type} (l : List α) (i : Nat) (x : α) (h : l[i]? = some x) : (l.drop i).reverse = (l.drop (i + 1)).reverse ++ [x] := by
  obtain ⟨hi, rfl⟩ := List.getElem?_eq_some_iff.1 h
  rw [List.drop_eq_getElem_cons hi, List.reverse_cons]

def intOf : Value → Int
  | .int _ i => i
  | _ => 0

set_option maxRecDepth 100000 in
set_option maxHeartbeats 2000000 in
theorem backward1_in (k : Nat) (hk : 1 ≤ k) (l B : Nat) (F : Foot) (D : Dk) (J Jx : List (Nat × List UInt8) → World → Prop)
    (hY : ∀ pre x W, J pre W → pre.length < D.pend.length → YieldAt Fence.wide (k - 1) Try.prog l (encW x) W fun e W' =>
      (e = .returned (.bool true) ∧ J (pre ++ [x]) W' ∧ KeepS (fun q => F.has q ∨ q = B) W W') ∨ (e = .returned (.bool false) ∧ Jx (pre ++ [x]) W'))
    (W : World) (hB : W.cell? ⟨B, 0, none⟩ = some (.pointer (some ⟨F.p, 0, none⟩))) (hOn : On W F D) (h0 : J [] W) :
    CallsIn Fence.wide k Try.prog 34 #[.func (.yield l) #[] #[], .pointer (some ⟨B, 0, none⟩)] W fun e W' => (∃ v, e = .returned v) ∧
      ((∃ ys, ys = D.pend.reverse ∧ J ys W') ∨ (∃ pre, pre <+: D.pend.reverse ∧ Jx pre W')) := by
  refine callsIn_of_wp Try.func34 rfl trivial ?_ rfl
  simp only [Try.ntmps34, List.size_toArray, List.length_cons, List.length_nil, Nat.reduceAdd, Nat.reduceSub, Array.replicate_succ, Array.replicate_zero, List.push_toArray, List.append_toArray, List.nil_append, List.cons_append]
  have hc1 := hOn.c1
  have few := hOn.ok.few
  rcases hOn.pending with ⟨hp, hnil⟩ | ⟨g, cap, hp, hg, hcap, hr⟩
  · rw [hp] at hc1
    have hH := Lib.hid (And.intro hnil h0)
    clear hY hOn hnil few hp h0
    gi_wp2
    gi_loopw [3] (fun p wr => p = .int .i64 (-1) ∧ wr = W) (fun p _ => 0)
    case atStart => exact ⟨rfl, rfl⟩
    case round =>
      obtain ⟨rfl, rfl⟩ := hrel
      gi_wp2
      go_end0
      exact ⟨⟨_, rfl⟩, .inl ⟨_, rfl, by rw [hH.out.1]; exact hH.out.2⟩⟩
  · rw [hp] at hc1
    have hH := Lib.hid (And.intro hOn h0)
    have hG := Lib.hid hp
    have hL : IntKind.i64.wrap ((D.pend.length : Int) - 1) = (D.pend.length : Int) - 1 := by rw [IntKind.wrap_i64]; omega
    have hR := Lib.hid hr
    have hB' := hB
    clear hr hp hOn h0
    gi_wp2
    gi_loopw [3] (fun p wr => ∃ (i : Int), p = .int .i64 i ∧ -1 ≤ i ∧ i < D.pend.length ∧ KeepS (fun q => F.has q ∨ q = B) W wr ∧ J (D.pend.drop (i + 1).toNat).reverse wr)
      (fun p _ => (intOf p + 1).toNat)
    case atStart =>
      refine ⟨_, rfl, by omega, by omega, fun _ _ => rfl, ?_⟩
      rw [show ((D.pend.length : Int) - 1 + 1).toNat = D.pend.length by omega, List.drop_length]
      exact hH.out.2
    case round =>
      obtain ⟨i, rfl, hi1, hi2, hks, hJs⟩ := hrel
      have hOn : On wr F D := hH.out.1.keep fun q hq => hks q (.inl hq)
      have hc1' := hOn.c1
      rw [hG.out] at hc1'
      have hB2 : wr.cell? ⟨B, 0, none⟩ = some (.pointer (some ⟨F.p, 0, none⟩)) := by rw [World.cell?_of_block (w := W) (hks B (.inr rfl))]; exact hB
      by_cases hin : 0 ≤ i
      · obtain ⟨n, rfl⟩ := Int.eq_ofNat_of_zero_le hin
        obtain ⟨x, hx⟩ : ∃ x, D.pend[n]? = some x := ⟨_, List.getElem?_eq_getElem (by omega)⟩
        have hlen : (wrV x).length = 65 := by rw [wrV_len, (hOn.ok.pend x (List.mem_of_getElem? hx)).2]
        have hrg := Lib.hid (rangeAt_kept (hR.out n x hx) (hks g (.inl hg)))
        have hinf : (Try.prog.info? 63).map (·.size) = some (wrV x).length := by rw [hlen]; kernel_rfl
        have hinf := Lib.hid hinf
        have hX := Lib.hid (drop_reverse D.pend n x hx)
        rw [show ((n : Int) + 1).toNat = n + 1 by omega] at hJs
        obtain ⟨fn, tmps, assign, body, hy, hR2⟩ := hY _ x wr hJs (by simp; omega)
        rw [encW, fixW_eq (hOn.ok.pend x (List.mem_of_getElem? hx)).2] at hy
        have hW1 : IntKind.i64.wrap ((n : Int) - 1) = (n : Int) - 1 := by rw [IntKind.wrap_i64]; omega
        clear hx hlen hOn
        have HK := Lib.hid hks
        clear hks
        gi_wp2_with (refine Kit.wpListIn_load_mid rfl 63 _ rfl g (n * 65) rfl (wrV x) _ hrg.out Try.underlying63 rfl hinf.out ?_)
        refine hR2.mono ?_
        rintro e W3 (⟨rfl, hJ3, hk3⟩ | ⟨rfl, hJx3⟩)
        · gi_wp2
          go_roundw
          case rel =>
            refine ⟨(n : Int) - 1, rfl, by omega, by omega, HK.out.trans hk3, ?_⟩
            rw [show ((n : Int) - 1 + 1).toNat = n by omega, hX.out]
            exact hJ3
          case measure => simp [intOf]
        · gi_wp2
          refine bodyPost_ret (results_none rfl _ _ _) rfl ?_
          refine ⟨⟨_, rfl⟩, .inr ⟨_, ?_, hJx3⟩⟩
          rw [← hX.out]
          exact List.reverse_prefix.2 (List.drop_suffix n _)
      · obtain rfl : i = -1 := by omega
        have hJ := Lib.hid hJs
        clear hJs hOn hin hks
        gi_wp2
        go_end0
        exact ⟨⟨_, rfl⟩, .inl ⟨_, rfl, hJ.out⟩⟩

/-- backward hands back a value that stops. -/
theorem backward_stops (k : Nat) (hk : 1 ≤ k) (B : Nat) (F : Foot) (D : Dk) (w : World) (hB : w.cell? ⟨B, 0, none⟩ = some (.pointer (some ⟨F.p, 0, none⟩))) (hOn : On w F D) :
    SeqStopsK Fence.wide k Try.prog 34 #[.pointer (some ⟨B, 0, none⟩)] encW (KeepS (fun q => F.has q ∨ q = B)) (fun ys => ys = D.pend.reverse) (fun pre => pre <+: D.pend.reverse) D.pend.length w := fun l J Jx W hW _ _ hY hJ0 =>
  backward1_in k hk l B F D J Jx hY W ((hW.cell (p := ⟨B, 0, none⟩) (Kit.lt_of_cell hB)).trans hB) (hOn.keep fun q hq => hW.block q (hOn.lt q hq)) hJ0

end Go.Proofs.Ythmpdnndfgmmfaa.Disk
