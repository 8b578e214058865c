/- Layer 2's laws: Keep. -/
import Derived.Test.YthmpdnndfgmmfaaLawDisk
namespace Go.Proofs.Ythmpdnndfgmmfaa.Disk
open Go.RowKit

attribute [local go_sem] Oper.semAt_some

def keepStep (many : Nat) (acc : List Nat) (x : Int) : List Nat := if pickN x many ∈ acc then acc else acc ++ [pickN x many]
def keepL (many : Nat) (xs : List Int) : List Nat := xs.foldl (keepStep many) []
/-- Of raw numbers, which of so many writes are kept. -/
def keepN (xs : List Int) (many : Nat) : List Nat := if many = 0 then [] else keepL many (xs.take 20)
theorem keepL_ok (many : Nat) (hm : 0 < many) (xs : List Int) : (∀ k ∈ keepL many xs, k < many) ∧ (keepL many xs).Nodup ∧ (keepL many xs).length ≤ xs.length := by
  have h : ∀ (xs : List Int) (acc : List Nat), (∀ k ∈ acc, k < many) → acc.Nodup → (∀ k ∈ xs.foldl (keepStep many) acc, k < many) ∧ (xs.foldl (keepStep many) acc).Nodup ∧ (xs.foldl (keepStep many) acc).length ≤ acc.length + xs.length := by
    intro xs
    induction xs with
    | nil => intro acc h1 h2; exact ⟨h1, h2, by simp⟩
    | cons x xs ih =>
      intro acc h1 h2
      rw [List.foldl_cons]
      unfold keepStep
      split
      · have := ih acc h1 h2
        exact ⟨this.1, this.2.1, by have := this.2.2; simp only [List.length_cons]; unfold keepStep at this; omega⟩
      · rename_i hn
        have := ih (acc ++ [pickN x many]) (fun k hk => by
          rcases List.mem_append.1 hk with hk | hk
          · exact h1 k hk
          · rw [List.mem_singleton.1 hk]; exact pickN_lt x hm) (List.nodup_append.2 ⟨h2, by simp, fun a ha b hb e => hn (by rw [← List.mem_singleton.1 hb, ← e]; exact ha)⟩)
        exact ⟨this.1, this.2.1, by have := this.2.2; simp only [List.length_cons]; unfold keepStep at this; simp at this; omega⟩
  have := h xs [] (by simp) (by simp)
  unfold keepL
  simpa using this
theorem keepN_lt (xs : List Int) (many : Nat) : ∀ k ∈ keepN xs many, k < many := by
  unfold keepN; split
  · simp
  · exact (keepL_ok many (by omega) _).1
theorem keepN_nodup (xs : List Int) (many : Nat) : (keepN xs many).Nodup := by
  unfold keepN; split
  · simp
  · exact (keepL_ok many (by omega) _).2.1
theorem keepN_len (xs : List Int) (many : Nat) : (keepN xs many).length ≤ 20 := by
  unfold keepN; split
  · simp
  · have := (keepL_ok many (by omega) (xs.take 20)).2.2
    have : (xs.take 20).length ≤ 20 := by simp; omega
    omega
def intsOf (l : List Nat) : List Int := l.map fun (k : Nat) => (k : Int)
theorem okKeep_keepN (xs : List Int) (many : Nat) : okKeep many (intsOf (keepN xs many)) = true := by
  unfold okKeep intsOf
  rw [decide_eq_true_iff]
  refine ⟨fun k hk => ?_, ?_⟩
  · obtain ⟨j, hj, rfl⟩ := List.mem_map.1 hk
    have := keepN_lt xs many j hj
    omega
  · have := keepN_nodup xs many
    rw [List.nodup_iff_pairwise_ne, List.pairwise_map] at *
    exact this.imp fun h e => h (by omega)

/-- A slice that the call has made. -/
theorem ints_own {w : World} {base : Nat} {v : Value} {l : List Nat} (h : w.ownsRow base 3 1 v l.length ((intsOf l).map (Value.int .i64))) : IntsAt w v (intsOf l) := by
  rcases h.2 with ⟨h1, h2⟩ | ⟨g, cap, cur, h1, _, hg, hc, _, hs, ht⟩
  · have : l = [] := List.length_eq_zero_iff.1 h2
    subst this
    exact .inl ⟨_, _, h1, rfl⟩
  · refine .inr ⟨g, 0, cap, by rw [h1]; simp [intsOf], (Array.getElem?_eq_some_iff.1 hg).1, by simp [intsOf]; exact hc, fun j x hx => ?_⟩
    rw [cell_of_row w g (0 + j) _ _ _ hg, Nat.zero_add]
    have hj : j < l.length := by
      have := (List.getElem?_eq_some_iff.1 hx).1
      simpa [intsOf] using this
    have : (cur.toList.take (l.length * 1))[j]? = some (.int .i64 x) := by rw [ht, List.getElem?_map, hx]; rfl
    rw [List.getElem?_take, if_pos (by omega), Array.getElem?_toList] at this
    exact this

set_option maxRecDepth 100000 in
set_option maxHeartbeats 4000000 in
theorem keep_any (xs : List Int) (hxb : ∀ x ∈ xs, -9223372036854775808 ≤ x ∧ x ≤ 9223372036854775807) (hlen : xs.length ≤ 9223372036854775807) (v : Value) (w : World) (hv : IntsAt w v xs) (many : Nat) (hm : many ≤ 1000) :
    Calls Try.prog 14 #[v, .int .i64 (many : Int)] w fun e w' => ∃ v', e = .returned v' ∧ IntsAt w' v' (intsOf (keepN xs many)) ∧ (∀ b, v'.ownBlock = some b → w.heap.size ≤ b ∧ b < w'.heap.size) ∧ Below w.heap.size w w' := by
  have hmk := run_make_row' (P := Try.prog) 64 4 (.bool false) 1 Try.underlying64 (by kernel_rfl) rfl .i64 .i64 many (by omega) (by omega)
  have HB0 := Lib.hid ((Below.refl _ w).alloc (Nat.le_refl _) (.cells (madeCells #[.bool false] many) 4))
  have HR := Lib.hid (World.rowIs_made w (.bool false) many 4)
  obtain ⟨o, cap, hvl⟩ : ∃ o cap, v = .slice o xs.length cap := by
    rcases hv with ⟨a, cap, rfl, rfl⟩ | ⟨b, off, cap, rfl, _⟩
    · exact ⟨a, cap, rfl⟩
    · exact ⟨_, cap, rfl⟩
  subst hvl
  by_cases h0 : many = 0
  · subst h0
    have hk : keepN xs 0 = [] := by unfold keepN; rw [if_pos rfl]
    rw [hk]
    have hmk0 : ∀ W : World, (Instr.makeSlice 64 (.int .i64 0) (.int .i64 0)).run Try.prog W = .ok (.slice (some ⟨W.heap.size, 0, none⟩) 0 0) (W.alloc (.cells (madeCells #[.bool false] 0) 4)) := hmk
    clear hv hxb hk hmk
    go_enter Try.func14, Try.ntmps14
    go_wp2
    go_loopw [5, 7] (fun s p wr => s = .slice none 0 0 ∧ p = .int .i64 0 ∧ wr = w.alloc (.cells (madeCells #[.bool false] 0) 4)) (fun _ _ _ => 0)
    case atStart => exact ⟨rfl, rfl, rfl⟩
    case round =>
      obtain ⟨rfl, rfl, rfl⟩ := hrel
      go_wp2
      all_goals go_ret
      all_goals exact ⟨_, rfl, .inl ⟨_, _, rfl, rfl⟩, fun b hb => by simp [Value.ownBlock] at hb, HB0.out⟩
  · have hkn : keepN xs many = keepL many (xs.take 20) := by unfold keepN; rw [if_neg h0]
    rw [hkn]
    have hpos : (0 : Int) < many := by omega
    have hinfo : (Try.prog.info? 3).map (fun i => (i.zero, i.size, i.bytes)) = some (some (.int .i64 0), 1, 8) := by kernel_rfl
    obtain ⟨i0, hi0, hz0, hz1, hz2⟩ := info_parts hinfo
    have HV := Lib.hid hv
    have HX := Lib.hid hxb
    have hm1 : 0 < many := by omega
    clear hv hxb hkn h0
    go_enter Try.func14, Try.ntmps14
    go_wp2
    go_loopw [5, 7] (fun s p wr => ∃ i : Nat, p = .int .i64 i ∧ i ≤ 20 ∧ i ≤ xs.length ∧ wr.ownsRow (w.heap.size + 1) 3 1 s (keepL many (xs.take i)).length ((intsOf (keepL many (xs.take i))).map (Value.int .i64)) ∧
      wr.rowIs w.heap.size 4 many (fun j => .bool (decide (j ∈ keepL many (xs.take i)))) ∧ Below w.heap.size w wr ∧ w.heap.size < wr.heap.size) (fun _ p _ => 20 - (intOf p).toNat)
    case atStart => exact ⟨0, rfl, by omega, by omega, World.ownsRow_nil _ _ _ _, HR.out.congr (fun j _ => by simp [keepL]), HB0.out, by simp⟩
    case round =>
      obtain ⟨i, rfl, hi, hi2, hown, hrow, hB, hsz⟩ := hrel
      obtain ⟨acc, hacc⟩ : ∃ acc, acc = keepL many (xs.take i) := ⟨_, rfl⟩
      have hak := keepL_ok many hm1 (xs.take i)
      rw [← hacc] at hown hrow hak
      have hal : acc.length ≤ 20 := Nat.le_trans hak.2.2 (by rw [List.length_take]; omega)
      have HAK := Lib.hid hak
      clear hak
      by_cases hlt : i < xs.length
      · by_cases h20 : i < 20
        · obtain ⟨x, hx⟩ : ∃ x, xs[i]? = some x := ⟨_, List.getElem?_eq_getElem hlt⟩
          obtain ⟨hx1, hx2⟩ := HX.out x (List.mem_of_getElem? hx)
          have hnext : keepL many (xs.take (i + 1)) = keepStep many acc x := by
            rw [take_snoc hx, hacc]; unfold keepL; rw [List.foldl_append]; rfl
          rcases HV.out with ⟨_, _, hn, hnil⟩ | ⟨b, off, cap', hsl, hbl, hcap, hc⟩
          · rw [hnil] at hlt; exact absurd hlt (by simp)
          · obtain ⟨rfl, rfl⟩ : o = some ⟨b, off, none⟩ ∧ cap = cap' := by cases hsl; exact ⟨rfl, rfl⟩
            have hcell : wr.cell? ⟨b, off + i, none⟩ = some (.int .i64 x) := (hB.cell (p := ⟨b, off + i, none⟩) hbl).trans (hc i x hx)
            have hql := pickN_lt x hm1
            obtain ⟨q, hq⟩ : ∃ q, q = pickN x many := ⟨_, rfl⟩
            have hpk := pick_any x hx1 hx2 many hm1 (by omega) wr
            rw [← hq] at hpk hql
            have HPK := Lib.hid hpk
            have hcq := hrow.cell hql
            have hfq := hrow.frozen q
            have HROW := Lib.hid hrow
            have HB := Lib.hid hB
            have HOWN := Lib.hid hown
            have HNX := Lib.hid hnext
            have HQ := Lib.hid hq
            clear hrow hB hown hnext hq hx hc hsl hpk hacc
            by_cases hmem : q ∈ acc
            · simp only [hmem, decide_true] at hcq
              have hst : keepStep many acc x = acc := by unfold keepStep; rw [← HQ.out, if_pos hmem]
              have HST := Lib.hid hst
              clear hmem hst
              go_wp2_with (go_at_call 17; refine HPK.out.mono ?_; rintro e w' ⟨rfl, rfl⟩)
              go_roundw
              case rel =>
                refine ⟨i + 1, by go_num, by omega, by omega, ?_⟩
                rw [HNX.out, HST.out]
                exact ⟨HOWN.out, HROW.out, HB.out, hsz⟩
              case measure => simp [intOf]; omega
            · have HM := Lib.hid hmem
              simp only [hmem, decide_false] at hcq
              have hst : keepStep many acc x = acc ++ [q] := by unfold keepStep; rw [← HQ.out, if_neg hmem]
              have HST := Lib.hid hst
              clear hmem hst
              -- the world behind the store
              obtain ⟨W1, hW1⟩ : ∃ W1, W1 = wr.setCell ⟨w.heap.size, q, none⟩ (.bool true) := ⟨_, rfl⟩
              go_upto_region 9 with (go_at_call 17; refine HPK.out.mono ?_; rintro e w' ⟨rfl, rfl⟩)
              rw [← hW1]
              have hr1 : W1.rowIs w.heap.size 4 many (fun j => .bool (decide (j ∈ acc ++ [q]))) := by
                rw [hW1]
                refine (HROW.out.set q (.bool true)).congr fun j hj => ?_
                by_cases e : j = q
                · subst e; simp
                · rw [if_neg e]; simp [e]
              have hb1 : Below w.heap.size w W1 := by rw [hW1]; exact HB.out.setCell (by exact Nat.le_refl _) _
              have ho1 := ownsRow_kept HOWN.out (w' := W1) (fun k hk => by
                rw [hW1]
                exact Below.heap_setCell wr ⟨w.heap.size, q, none⟩ _ k (fun e => by have := (HOWN.out.lt k hk).1; simp only at e; omega))
              have hs1 : w.heap.size < W1.heap.size := by
                rw [hW1]; exact Nat.lt_of_lt_of_le hsz (KeepsWalks.setCell wr _ _).size
              have HR1 := Lib.hid hr1
              have HBB := Lib.hid hb1
              clear hr1 hb1 hW1 hcq hfq hcell
              go_wp2_with (at_builtin; refine wpList_append_own _ rfl _ _ 23 rfl (w.heap.size + 1) 3 i0 (.int .i64 0) 1 8 Try.underlying23 hi0 hz0 hz1 hz2 rfl (by decide) _ _ _ rfl (ho1.alloc (.cells #[.int .i64 (q : Int)] 3)) ⟨W1.heap.size, 0, none⟩ 1 1 [.int .i64 (q : Int)] rfl rfl (cell_one_new _ _ _) (by simp [Value.oneCell']) (by unfold maxLen; omega) (by omega) (by simp; omega) ?_; intro v' w3 hown' hgrow _)
              go_roundw
              case rel =>
                have hl := (ho1.alloc (.cells #[.int .i64 (q : Int)] 3)).lt
                have hb3 := (HBB.out.alloc (by omega) (.cells #[.int .i64 (q : Int)] 3)).grown hgrow (by simp; omega) (fun j e => by have := (hl j e).1; omega)
                have hg : W1.heap[w.heap.size]? = w3.heap[w.heap.size]? := by
                  rw [hgrow.block _ (by simp; omega) (fun e => by have := (hl _ e.symm).1; omega)]
                  exact (Below.heap_alloc W1 _ _ hs1).symm
                refine ⟨i + 1, by go_num, by omega, by omega, ?_⟩
                rw [HNX.out, HST.out]
                refine ⟨?_, ?_, hb3, ?_⟩
                · simpa [intsOf] using hown'
                · obtain ⟨c, c1, c2⟩ := HR1.out
                  exact ⟨c, hg ▸ c1, c2⟩
                · have := hgrow.size; simp at this; omega
              case measure => simp [intOf]; omega
        · obtain rfl : i = 20 := by omega
          have HOWN := Lib.hid (And.intro hown hacc)
          clear hown hrow hacc
          go_wp2
          go_ret
          exact ⟨_, rfl, by have := HOWN.out.2; rw [← this]; exact ints_own HOWN.out.1, fun b hb => by have := HOWN.out.1.lt b hb; omega, hB⟩
      · obtain rfl : i = xs.length := by omega
        have hfull : keepL many (xs.take 20) = acc := by
          rw [hacc, List.take_of_length_le (by omega), List.take_of_length_le (Nat.le_refl _)]
        have HOWN := Lib.hid (And.intro hown hfull)
        clear hown hrow hacc hfull
        go_wp2
        go_ret
        exact ⟨_, rfl, by rw [HOWN.out.2]; exact ints_own HOWN.out.1, fun b hb => by have := HOWN.out.1.lt b hb; omega, hB⟩
end Go.Proofs.Ythmpdnndfgmmfaa.Disk
