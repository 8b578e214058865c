/- Layer 2: slices of ints in memory; the walk of numberEachOnce. -/
import Derived.Test.YthmpdnndfgmmfaaDiskThere
import Derived.Deep.OwnRows
namespace Go.Proofs.Ythmpdnndfgmmfaa.Disk
open Go.RowKit

attribute [local go_sem] Oper.semAt_some

/-- The value is a slice that holds these numbers. -/
def IntsAt (w : World) (v : Value) (xs : List Int) : Prop :=
  (∃ a cap, v = .slice a 0 cap ∧ xs = []) ∨ ∃ b o cap, v = .slice (some ⟨b, o, none⟩) xs.length cap ∧ b < w.heap.size ∧ xs.length ≤ cap ∧ ∀ j x, xs[j]? = some x → w.cell? ⟨b, o + j, none⟩ = some (.int .i64 x)
/-- Each names one of n, and each once. -/
def okKeep (n : Nat) (xs : List Int) : Bool := decide ((∀ k ∈ xs, 0 ≤ k ∧ k < n) ∧ xs.Nodup)
theorem okKeep_bad {n : Nat} {xs : List Int} {i : Nat} {x : Int} (hx : xs[i]? = some x) (h : ¬ (0 ≤ x ∧ x < n) ∨ x ∈ xs.take i) : okKeep n xs = false := by
  unfold okKeep
  rw [decide_eq_false_iff_not]
  rintro ⟨h1, h2⟩
  rcases h with h | h
  · exact h (h1 x (List.mem_of_getElem? hx))
  · obtain ⟨hi, rfl⟩ := List.getElem?_eq_some_iff.1 hx
    rw [← List.take_append_drop i xs, List.nodup_append] at h2
    refine h2.2.2 _ h _ ?_ rfl
    rw [List.drop_eq_getElem_cons hi]
    exact List.mem_cons_self
theorem take_snoc {α : Type} {xs : List α} {i : Nat} {x : α} (hx : xs[i]? = some x) : xs.take (i + 1) = xs.take i ++ [x] := by
  obtain ⟨hi, rfl⟩ := List.getElem?_eq_some_iff.1 hx
  exact List.take_succ_eq_append_getElem hi

set_option maxRecDepth 100000 in
set_option maxHeartbeats 2000000 in
theorem once_any (xs : List Int) (hlen : xs.length ≤ 1000) (hxb : ∀ x ∈ xs, -9223372036854775808 ≤ x ∧ x ≤ 9223372036854775807) (v : Value) (w : World) (hv : IntsAt w v xs) (n : Nat) (hn : n ≤ 1000) :
    Calls Try.prog 27 #[v, .int .i64 (n : Int)] w fun e w' => e = .returned (.bool (okKeep n xs)) ∧ Below w.heap.size w w' := by
  have hmk := run_make_row' (P := Try.prog) 64 4 (.bool false) 1 Try.underlying64 (by kernel_rfl) rfl .i64 .i64 n (by omega) (by omega)
  rcases hv with ⟨_, _, rfl, rfl⟩ | ⟨b, o, cap, rfl, hbl, hcap, hc⟩
  · go_enter Try.func27, Try.ntmps27
    go_wp2
    go_loopw [12] (fun i wr => i = .int .i64 0 ∧ wr = w.alloc (.cells (madeCells #[.bool false] n) 4)) (fun _ _ => 0)
    case atStart => exact ⟨rfl, rfl⟩
    case round =>
      obtain ⟨rfl, rfl⟩ := hrel
      go_wp2
      go_ret
      exact ⟨rfl, (Below.refl _ w).alloc (Nat.le_refl _) _⟩
  · have HC := Lib.hid hc; clear hc
    have HX := Lib.hid hxb; clear hxb
    have hr0 := World.rowIs_made w (.bool false) n 4
    have HR := Lib.hid hr0; clear hr0
    have hb0 : Below w.heap.size w (w.alloc (.cells (madeCells #[.bool false] n) 4)) := (Below.refl _ w).alloc (Nat.le_refl _) _
    have HB0 := Lib.hid hb0; clear hb0
    go_enter Try.func27, Try.ntmps27
    go_wp2
    go_loopw [12] (fun p wr => ∃ i : Nat, p = .int .i64 i ∧ i ≤ xs.length ∧ (∀ k ∈ xs.take i, 0 ≤ k ∧ k < n) ∧ (xs.take i).Nodup ∧ wr.rowIs w.heap.size 4 n (fun j => .bool (decide ((j : Int) ∈ xs.take i))) ∧ Below w.heap.size w wr) (fun p _ => xs.length - (intOf p).toNat)
    case atStart => exact ⟨0, rfl, by omega, by simp, by simp, HR.out.congr (fun j _ => by simp), HB0.out⟩
    case round =>
      obtain ⟨i, rfl, hi, hra, hnd, hrow, hB⟩ := hrel
      have HRA := Lib.hid hra; clear hra
      have HND := Lib.hid hnd; clear hnd
      have HRW := Lib.hid hrow; clear hrow
      have HBW := Lib.hid hB; clear hB
      by_cases hlt : i < xs.length
      · obtain ⟨x, hx⟩ : ∃ x, xs[i]? = some x := ⟨_, List.getElem?_eq_getElem hlt⟩
        have hcell : wr.cell? ⟨b, o + i, none⟩ = some (.int .i64 x) := (HBW.out.cell (p := ⟨b, o + i, none⟩) hbl).trans (HC.out i x hx)
        obtain ⟨hx1, hx2⟩ := HX.out x (List.mem_of_getElem? hx)
        have HXI := Lib.hid hx; clear hx
        by_cases h0 : 0 ≤ x
        · by_cases h1 : x < n
          · obtain ⟨y, rfl⟩ := Int.eq_ofNat_of_zero_le h0
            have hyn : y < n := by omega
            have hs := HRW.out.cell hyn
            have hf := HRW.out.frozen y
            by_cases hm : (y : Int) ∈ xs.take i
            · have hbad := Lib.hid (okKeep_bad (n := n) HXI.out (.inr hm))
              simp only [hm, decide_true] at hs
              clear hm
              go_wp2
              go_ret
              exact ⟨Kit.ret_bool hbad.out.symm, HBW.out⟩
            · have HM := Lib.hid hm
              simp only [hm, decide_false] at hs
              clear hm
              go_wp2
              go_roundw
              case rel =>
                refine ⟨i + 1, by go_num, by omega, ?_, ?_, ?_, HBW.out.setCell (by exact Nat.le_refl _) _⟩
                · intro k hk
                  rw [take_snoc HXI.out] at hk
                  rcases List.mem_append.1 hk with hk | hk
                  · exact HRA.out k hk
                  · rw [List.mem_singleton.1 hk]; omega
                · rw [take_snoc HXI.out]
                  refine List.nodup_append.2 ⟨HND.out, by simp, fun a ha b hb e => HM.out ?_⟩
                  rw [← List.mem_singleton.1 hb, ← e]; exact ha
                · rw [take_snoc HXI.out]
                  refine (HRW.out.set y (.bool true)).congr fun j hj => ?_
                  by_cases e : j = y
                  · subst e; simp
                  · rw [if_neg e]
                    have : ((j : Int) = (y : Int)) = False := by simp; omega
                    simp [this]
              case measure => simp [intOf]; omega
          · have hbad := Lib.hid (okKeep_bad (n := n) HXI.out (.inl (by omega)))
            go_wp2
            go_ret
            exact ⟨Kit.ret_bool hbad.out.symm, HBW.out⟩
        · have hbad := Lib.hid (okKeep_bad (n := n) HXI.out (.inl (by omega)))
          go_wp2
          go_ret
          exact ⟨Kit.ret_bool hbad.out.symm, HBW.out⟩
      · obtain rfl : i = xs.length := by omega
        have hgood : okKeep n xs = true := by
          have h1 := HRA.out
          have h2 := HND.out
          rw [List.take_length] at h1 h2
          unfold okKeep
          rw [decide_eq_true_iff]
          exact ⟨h1, h2⟩
        have HG := Lib.hid hgood; clear hgood
        go_wp2
        go_ret
        exact ⟨Kit.ret_bool HG.out.symm, HBW.out⟩
end Go.Proofs.Ythmpdnndfgmmfaa.Disk
