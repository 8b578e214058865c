/- Layer 4's laws: ValOf of a list's type. -/
import Derived.Test.YtmobnlofbopbeaaDoorLaw4Val
import Derived.Deep.RegionHeld
namespace Go.Proofs.YtmobnlofbopbeaaDoor.Cls
open Go.RowKit
open Val (Vl Rep RepL flat flatV aggV bs pickN pickN_lt cellsF cellsF_len cellsF_one BoxF boxF_new zero4 vInfo3 Fresh repL_own end4b)
open Kit (Moved)

attribute [local go_sem] Oper.semAt_some

theorem val4_flat (K n : Int) (m : Nat) : (val4 K n m).isFlat := by
  unfold val4
  repeat' split
  all_goals rfl
/-- Of raw numbers, the values of a list. -/
def valL (O n : Int) (m k : Nat) : List Vl := (List.range k).map fun (i : Nat) => val4 O (n.tdiv 4 + (i : Int)) m
theorem valL_len (O n : Int) (m k : Nat) : (valL O n m k).length = k := by simp [valL]
theorem valL_succ (O n : Int) (m k : Nat) : valL O n m (k + 1) = valL O n m k ++ [val4 O (n.tdiv 4 + (k : Int)) m] := by unfold valL; rw [List.range_succ, List.map_append]; rfl
theorem valL_flat (O n : Int) (m k : Nat) : ∀ y ∈ valL O n m k, y.isFlat := by
  intro y hy
  obtain ⟨i, _, rfl⟩ := List.mem_map.1 hy
  exact val4_flat _ _ _
theorem newV (W : World) (z : Vl) : ∀ (j : Nat) (u : Value), (cellsF z)[j]? = some u → (W.alloc (.cells (cellsF z).toArray 31)).cell? ((⟨W.heap.size, 0, none⟩ : Addr).add j) = some u := fun j u hu => by
  rw [Addr.add_mid]
  exact Kit.cell_new W _ _ (0 + j) (by rw [Nat.zero_add, List.getElem?_toArray]; exact hu)

/-- What lies in memory while it is made. -/
structure VJ4 (w : World) (O n : Int) (m bv k : Nat) (lv : Value) (W : World) : Prop where
  t1 : W.cell? ⟨w.heap.size, 1, none⟩ = some (.int .i64 O)
  res : BoxF W (w.heap.size + 1) (.int .i64 0) (.int .i64 0) (.string ⟨#[]⟩) (.slice none 0 0)
  v : BoxF W bv (.int .i64 5) (.int .i64 0) (.string ⟨#[]⟩) lv
  row : W.ownsRow (bv + 1) 31 4 lv k ((valL O n m k).flatMap cellsF)
  nil : k = 0 → lv = .slice none 0 0
  below : Below w.heap.size w W
  lt : w.heap.size + 1 < bv
  sz : bv + 1 ≤ W.heap.size
theorem VJ4.later {w : World} {O n : Int} {m bv k : Nat} {lv : Value} {W W' : World} (h : VJ4 w O n m bv k lv W) (hB : Below W.heap.size W W') : VJ4 w O n m bv k lv W' := by
  have hz := hB.size
  have hs := h.sz
  have hl := h.lt
  exact ⟨(hB.cell (p := ⟨w.heap.size, 1, none⟩) (Kit.lt_of_cell h.t1)).trans h.t1, h.res.moved (Kit.Moved.of_below hB) (by omega), h.v.moved (Kit.Moved.of_below hB) (by omega), Kit.ownsRow_kept h.row (fun j hj => hB.block j (h.row.lt j hj).2), h.nil, h.below.trans (hB.mono h.below.size), hl, by omega⟩
theorem VJ4.slice {w : World} {O n : Int} {m bv k : Nat} {lv : Value} {W : World} (h : VJ4 w O n m bv k lv W) : ∃ a c, lv = .slice a k c := by
  rcases h.row.2 with ⟨h1, h2⟩ | ⟨g, cap, cur, h1, _⟩
  · exact ⟨none, 0, by rw [h1, h2]⟩
  · exact ⟨_, _, h1⟩
/-- One more is appended, and the list set. -/
theorem VJ4.push {w : World} {O n : Int} {m bv k : Nat} {lv v' : Value} {W w6 : World} (h : VJ4 w O n m bv k lv W) (hg : W.grownBy w6 lv.ownBlock)
    (hown : w6.ownsRow (bv + 1) 31 4 v' (k + 1) ((valL O n m k).flatMap cellsF ++ cellsF (val4 O (n.tdiv 4 + (k : Int)) m))) : VJ4 w O n m bv (k + 1) v' (w6.setCell ⟨bv, 3, none⟩ v') := by
  have hm : Moved (fun j => bv + 1 ≤ j) W w6 := (Kit.Moved.of_grownBy hg).mono fun j _ hj => (h.row.lt j hj).1
  have hms : Moved (fun j => j = bv) w6 (w6.setCell ⟨bv, 3, none⟩ v') := Kit.Moved.setCell _ _ _ _ rfl
  have hmt : Moved (fun j => bv ≤ j) W (w6.setCell ⟨bv, 3, none⟩ v') := (hm.mono (T := fun j => bv ≤ j) (fun j _ hj => by omega)).trans hms (fun j _ hj => by omega)
  have hsz := h.sz
  have hlt := h.lt
  have hz6 := hmt.size
  refine ⟨Val.cell_moved h.t1 hmt (by omega), h.res.moved hmt (by omega), (h.v.moved hm (by omega)).set3 v', ?_, fun h => by omega, h.below.trans (hmt.below (fun j hj => by omega) (by omega)), hlt, by omega⟩
  rw [valL_succ, List.flatMap_append]
  refine Kit.ownsRow_kept (xs := (valL O n m k).flatMap cellsF ++ [val4 O (n.tdiv 4 + (k : Int)) m].flatMap cellsF) (by simpa using hown) fun j hj => hms.block j (hown.lt j hj).2 (by have := (hown.lt j hj).1; omega)

abbrev textsV : Array Value := #[.string ⟨#[]⟩, .string ⟨#[97]⟩, .string ⟨#[98, 99]⟩, .string ⟨#[195, 169, 116, 195, 169]⟩, .string ⟨#[97, 32, 98]⟩, .string ⟨#[122, 122, 32, 116, 111, 112]⟩, .string ⟨#[48]⟩, .string ⟨#[45, 55]⟩]
theorem VJ4.begins (w : World) (O n : Int) (m : Nat) (T : TypeId) : VJ4 w O n m (w.heap.size + 1 + 1 + 1) 0 (.slice none 0 0)
    ((((w.alloc (.cells #[.int .i64 5, .int .i64 O] 44)).alloc (.cells #[.int .i64 0, .int .i64 0, .string ⟨#[]⟩, .slice none 0 0] 31)).alloc (.cells textsV T)).alloc (.cells #[.int .i64 5, .int .i64 0, .string ⟨#[]⟩, .slice none 0 0] 31)) := by
  have hr := boxF_new (w.alloc (.cells #[.int .i64 5, .int .i64 O] 44)) (.int .i64 0) (.int .i64 0) (.string ⟨#[]⟩) (.slice none 0 0) 31
  have hv := boxF_new (((w.alloc (.cells #[.int .i64 5, .int .i64 O] 44)).alloc (.cells #[.int .i64 0, .int .i64 0, .string ⟨#[]⟩, .slice none 0 0] 31)).alloc (.cells textsV T)) (.int .i64 5) (.int .i64 0) (.string ⟨#[]⟩) (.slice none 0 0) 31
  simp only [World.size_alloc] at hr hv
  refine ⟨Kit.cell_kept _ (Kit.cell_kept _ (Kit.cell_kept _ (Kit.cell_new w #[.int .i64 5, .int .i64 O] 44 1 rfl))), (hr.alloc _).alloc _, hv, World.ownsRow_nil _ _ _ _, fun _ => rfl, ?_, by omega, by simp⟩
  exact ((Kit.below_alloc2 w _ _).alloc (by simp; omega) _).alloc (by simp; omega) _

def ValPost (w : World) (K n : Int) (s : ByteArray) (l : List Vl) (e : Ending) (w' : World) : Prop := (∃ lv, e = .returned (aggV K n s lv) ∧ RepL w'.heap.size w' l lv ∧ Fresh w.heap.size lv) ∧ Below w.heap.size w w'

set_option maxRecDepth 100000 in
set_option maxHeartbeats 8000000 in
theorem valOf4_list (O n : Int) (hO : 1 ≤ O ∧ O ≤ 4) (n1 : -9223372036854775808 ≤ n) (n2 : n ≤ 9223372036854775807) (m : Nat) (hm : m ≤ 4000000000000000) (w : World) :
    Calls Tryd.prog 19 #[.agg #[.int .i64 5, .int .i64 O], .int .i64 n, .int .i64 (m : Int)] w (ValPost w 5 0 ⟨#[]⟩ (valL O n m (pickN n 4))) := by
  have h4 := pickN_lt n (n := 4) (by decide)
  have HP := Lib.hid (fun W => pick4_any n n1 n2 4 (by decide) (by decide) W)
  obtain ⟨hq1, hq2⟩ : -2305843009213693952 ≤ n.tdiv 4 ∧ n.tdiv 4 ≤ 2305843009213693951 := by
    rcases Int.le_total 0 n with h | h
    · rw [Int.tdiv_eq_ediv_of_nonneg h]; omega
    · have h2 := Int.neg_tdiv (-n) 4
      rw [Int.neg_neg] at h2
      rw [h2, Int.tdiv_eq_ediv_of_nonneg (by omega)]; omega
  have hwq : IntKind.i64.wrap (n.tdiv 4) = n.tdiv 4 := by rw [IntKind.wrap_i64]; omega
  obtain ⟨q, hq⟩ : ∃ q, q = n.tdiv 4 := ⟨_, rfl⟩
  have HQ := Lib.hid (And.intro hq (And.intro hq1 hq2))
  have HV := Lib.hid (fun (k : Nat) (hk : k < 4) W => valOf4_flat O 0 (q + (k : Int)) hO (by omega) (by omega) m hm W)
  rw [← hq] at hwq
  have hdq : n.tdiv 4 = q := hq.symm
  have J0 := Lib.hid (VJ4.begins w O n m 9)
  generalize pickN n 4 = P at *
  obtain ⟨i0, hi0, hz0, hz1, hz2⟩ := info_parts vInfo3
  clear n1 n2 hq hq1 hq2 hm hO
  go_enter Tryd.func19, Tryd.ntmps19
  go_upto_region 13 with fail
  generalize (((w.alloc (.cells #[.int .i64 5, .int .i64 O] 44)).alloc (.cells #[.int .i64 0, .int .i64 0, .string ⟨#[]⟩, .slice none 0 0] 31)).alloc (.cells textsV 9)).alloc (.cells #[.int .i64 5, .int .i64 0, .string ⟨#[]⟩, .slice none 0 0] 31) = W2 at *
  generalize w.heap.size + 1 + 1 + 1 = bv at *
  go_wp2_with fail
  go_loopw [9] (fun i wr => ∃ (k : Nat) (lv : Value), k ≤ P ∧ i = .int .i64 k ∧ VJ4 w O n m bv k lv wr) (fun i _ => 4 - (intOf i).toNat)
  case atStart => exact ⟨0, _, by omega, rfl, J0.out⟩
  case round =>
    obtain ⟨k, lv, hkP, rfl, hJ⟩ := hrel
    obtain ⟨a1, c1, rfl⟩ := hJ.slice
    have J1 := Lib.hid hJ
    clear J0 hJ
    by_cases hc : k < P
    · have hk4 : k < 4 := by omega
      have i1 : (k : Int) < (P : Int) := by omega
      have hwk : IntKind.i64.wrap (q + (k : Int)) = q + (k : Int) := by have := HQ.out; rw [IntKind.wrap_i64]; omega
      obtain ⟨z, hz⟩ : ∃ z, z = val4 O (q + (k : Int)) m := ⟨_, rfl⟩
      have hv1 := fun W => HV.out k hk4 W
      rw [← hz] at hv1
      have HFit := Lib.hid hv1
      have HZ := Lib.hid hz
      clear hz hv1
      go_wp2_with fail
      refine (HP.out _).mono ?_; rintro e W1 ⟨rfl, rfl⟩
      go_upto_region 16 with fail
      refine wp_region_held_drew (S := fun W => W.cell? ⟨w.heap.size, 1, none⟩ = some (.int .i64 O)) (by kernel_rfl) J1.out.t1 (fun hHeld => ?_)
      have J2 := Lib.hid (J1.out.later (W' := wr.drew) ((Below.refl _ _).drew))
      clear J1
      have J1 := J2
      clear J2
      generalize wr.drew = W4 at *
      refine wpAnyH_take (i := 0) (v := .pointer (some ⟨bv, 3, none⟩)) Kit.at0 (by kernel_rfl) (by kernel_rfl) (by kernel_rfl) (fun _ _ _ h => h) (Or.inl ⟨by rfl, fun w hw => ?_⟩) hHeld ?_
      case' refine_1 => go_simp
      try simp only [Act.put, List.setIfInBounds_toArray, List.set_cons_zero, List.set_cons_succ]
      refine wpAnyH_take (i := 2) (v := .pointer (some ⟨w.heap.size, 1, none⟩)) Kit.at2 (by kernel_rfl) (by kernel_rfl) (by kernel_rfl) (fun _ _ _ h => h) (Or.inl ⟨by rfl, fun w hw => ?_⟩) hHeld ?_
      case' refine_1 => go_simp
      try simp only [Act.put, List.setIfInBounds_toArray, List.set_cons_zero, List.set_cons_succ]
      refine wpAnyH_take (i := 3) (v := .int .i64 O) Kit.at3 (by kernel_rfl) (by kernel_rfl) (by kernel_rfl) (fun _ _ _ h => h) (Or.inl ⟨by rfl, fun w hw => ?_⟩) hHeld ?_
      case' refine_1 => go_simp
      try simp only [Act.put, List.setIfInBounds_toArray, List.set_cons_zero, List.set_cons_succ]
      refine wpAnyH_take (i := 4) (v := .agg #[.int .i64 O, .int .i64 0]) Kit.at4 (by kernel_rfl) (by kernel_rfl) (by kernel_rfl) (fun _ _ _ h => h) (Or.inl ⟨by rfl, fun w hw => ?_⟩) hHeld ?_
      case' refine_1 => go_simp
      try simp only [Act.put, List.setIfInBounds_toArray, List.set_cons_zero, List.set_cons_succ]
      refine wpAnyH_take (i := 5) (v := .int .i64 n) Kit.at5 (by kernel_rfl) (by kernel_rfl) (by kernel_rfl) (fun _ _ _ h => h) (Or.inl ⟨by rfl, fun w hw => ?_⟩) hHeld ?_
      case' refine_1 => go_simp
      try simp only [Act.put, List.setIfInBounds_toArray, List.set_cons_zero, List.set_cons_succ]
      refine wpAnyH_take (i := 6) (v := .int .i64 q) Kit.at6 (by kernel_rfl) (by kernel_rfl) (by kernel_rfl) (fun _ _ _ h => h) (Or.inl ⟨by rfl, fun w hw => ?_⟩) hHeld ?_
      case' refine_1 => go_simp
      try simp only [Act.put, List.setIfInBounds_toArray, List.set_cons_zero, List.set_cons_succ]
      refine wpAnyH_take (i := 7) (v := .int .i64 (k : Int)) Kit.at7 (by kernel_rfl) (by kernel_rfl) (by kernel_rfl) (fun _ _ _ h => h) (Or.inl ⟨by rfl, fun w hw => ?_⟩) hHeld ?_
      case' refine_1 => go_simp
      try simp only [Act.put, List.setIfInBounds_toArray, List.set_cons_zero, List.set_cons_succ]
      refine wpAnyH_take (i := 8) (v := .int .i64 (q + (k : Int))) Kit.at8 (by kernel_rfl) (by kernel_rfl) (by kernel_rfl) (fun _ _ _ h => h) (Or.inl ⟨by rfl, fun w hw => ?_⟩) hHeld ?_
      case' refine_1 => go_simp
      try simp only [Act.put, List.setIfInBounds_toArray, List.set_cons_zero, List.set_cons_succ]
      refine wpAnyH_take (i := 9) (v := .int .i64 (m : Int)) Kit.at9 (by kernel_rfl) (by kernel_rfl) (by kernel_rfl) (fun _ _ _ h => h) (Or.inl ⟨by rfl, fun w hw => ?_⟩) hHeld ?_
      case' refine_1 => go_simp
      try simp only [Act.put, List.setIfInBounds_toArray, List.set_cons_zero, List.set_cons_succ]
      refine wpAnyH_ready (rs := [1, 10]) (by kernel_rfl) (by simp) ?_
      refine AllReadyH.cons Kit.at1 (fun K0 hK => ?t1) (AllReadyH.cons Kit.at10 (fun K0 hK => ?t10) AllReadyH.nil)
      case' t1 =>
        have q1 := J1.out.v.c.2.2.2
        go_simp
        refine hK.out _ _ J1.out.t1 (fun hHeld => ?_)
        clear hK K0 q1
        try simp only [Act.put, List.setIfInBounds_toArray, List.set_cons_zero, List.set_cons_succ]
        refine wpAnyH_ready (rs := [10]) (by kernel_rfl) (by simp) ?_
        refine AllReadyH.cons Kit.at10 (fun K0 hK => ?_) AllReadyH.nil
        go_simp
        refine (HFit.out _).mono ?_; rintro e Wc ⟨rfl, hBc⟩
        have Jc := Lib.hid (J1.out.later hBc)
        refine hK.out _ _ Jc.out.t1 (fun hHeld => ?_)
        clear hK K0 hBc J1
        try simp only [Act.put, List.setIfInBounds_toArray, List.set_cons_zero, List.set_cons_succ]
        refine wpAnyH_ready (rs := [11]) (by kernel_rfl) (by simp) ?_
        refine AllReadyH.cons Kit.at11 (fun K0 hK => ?_) AllReadyH.nil
        have Jb := Lib.hid (Jc.out.later (Kit.below_alloc Wc (.cells (cellsF z).toArray 31)))
        have Cb := Lib.hid (newV Wc z)
        refine Kit.step_buildSlice_one rfl 29 31 _ rfl (cellsF z) rfl i0 _ Tryd.underlying29 hi0 hz0 (hz1.trans rfl) (by rw [cellsF_len]; decide) (by rw [cellsF_len]; decide) ?_
        refine hK.out _ _ Jb.out.t1 (fun hHeld => ?_)
        clear hK K0 Jc
        try simp only [Act.put, List.setIfInBounds_toArray, List.set_cons_zero, List.set_cons_succ]
        generalize Wc.alloc (.cells (cellsF z).toArray 31) = Wb at *
        generalize Wc.heap.size = T at *
        obtain ⟨J5, C5⟩ : Hid (VJ4 w O n m bv k (.slice a1 k c1) Wb) ∧ Hid (∀ (j : Nat) (u : Value), (cellsF z)[j]? = some u → Wb.cell? ((⟨T, 0, none⟩ : Addr).add j) = some u) := ⟨Jb, Cb⟩
        clear Jb Cb
        generalize Wb = W5 at *
      case' t10 =>
        go_simp
        refine (HFit.out _).mono ?_; rintro e Wc ⟨rfl, hBc⟩
        have Jc := Lib.hid (J1.out.later hBc)
        refine hK.out _ _ Jc.out.t1 (fun hHeld => ?_)
        clear hK K0 hBc J1
        try simp only [Act.put, List.setIfInBounds_toArray, List.set_cons_zero, List.set_cons_succ]
        refine wpAnyH_ready (rs := [1, 11]) (by kernel_rfl) (by simp) ?_
        refine AllReadyH.cons Kit.at1 (fun K0 hK => ?ta) (AllReadyH.cons Kit.at11 (fun K0 hK => ?tb) AllReadyH.nil)
        case' ta =>
          have q1 := Jc.out.v.c.2.2.2
          go_simp
          refine hK.out _ _ Jc.out.t1 (fun hHeld => ?_)
          clear hK K0 q1
          try simp only [Act.put, List.setIfInBounds_toArray, List.set_cons_zero, List.set_cons_succ]
          refine wpAnyH_ready (rs := [11]) (by kernel_rfl) (by simp) ?_
          refine AllReadyH.cons Kit.at11 (fun K0 hK => ?_) AllReadyH.nil
          have Jb := Lib.hid (Jc.out.later (Kit.below_alloc Wc (.cells (cellsF z).toArray 31)))
          have Cb := Lib.hid (newV Wc z)
          refine Kit.step_buildSlice_one rfl 29 31 _ rfl (cellsF z) rfl i0 _ Tryd.underlying29 hi0 hz0 (hz1.trans rfl) (by rw [cellsF_len]; decide) (by rw [cellsF_len]; decide) ?_
          refine hK.out _ _ Jb.out.t1 (fun hHeld => ?_)
          clear hK K0 Jc
          try simp only [Act.put, List.setIfInBounds_toArray, List.set_cons_zero, List.set_cons_succ]
          generalize Wc.alloc (.cells (cellsF z).toArray 31) = Wb at *
          generalize Wc.heap.size = T at *
          obtain ⟨J5, C5⟩ : Hid (VJ4 w O n m bv k (.slice a1 k c1) Wb) ∧ Hid (∀ (j : Nat) (u : Value), (cellsF z)[j]? = some u → Wb.cell? ((⟨T, 0, none⟩ : Addr).add j) = some u) := ⟨Jb, Cb⟩
          clear Jb Cb
          generalize Wb = W5 at *
        case' tb =>
          have Jb := Lib.hid (Jc.out.later (Kit.below_alloc Wc (.cells (cellsF z).toArray 31)))
          have Cb := Lib.hid (newV Wc z)
          refine Kit.step_buildSlice_one rfl 29 31 _ rfl (cellsF z) rfl i0 _ Tryd.underlying29 hi0 hz0 (hz1.trans rfl) (by rw [cellsF_len]; decide) (by rw [cellsF_len]; decide) ?_
          refine hK.out _ _ Jb.out.t1 (fun hHeld => ?_)
          clear hK K0 Jc
          try simp only [Act.put, List.setIfInBounds_toArray, List.set_cons_zero, List.set_cons_succ]
          generalize Wc.alloc (.cells (cellsF z).toArray 31) = Wb at *
          generalize Wc.heap.size = T at *
          refine wpAnyH_ready (rs := [1]) (by kernel_rfl) (by simp) ?_
          refine AllReadyH.cons Kit.at1 (fun K0 hK => ?_) AllReadyH.nil
          have q1 := Jb.out.v.c.2.2.2
          go_simp
          refine hK.out _ _ Jb.out.t1 (fun hHeld => ?_)
          clear hK K0 q1
          try simp only [Act.put, List.setIfInBounds_toArray, List.set_cons_zero, List.set_cons_succ]
          obtain ⟨J5, C5⟩ : Hid (VJ4 w O n m bv k (.slice a1 k c1) Wb) ∧ Hid (∀ (j : Nat) (u : Value), (cellsF z)[j]? = some u → Wb.cell? ((⟨T, 0, none⟩ : Addr).add j) = some u) := ⟨Jb, Cb⟩
          clear Jb Cb
          generalize Wb = W5 at *
      all_goals
        refine wpAnyH_ready (rs := [12]) (by kernel_rfl) (by simp) ?_
        refine AllReadyH.cons Kit.at12 (fun K0 hK => ?_) AllReadyH.nil
        refine Kit.step_append_own_at rfl _ _ 29 rfl (bv + 1) 31 i0 (.agg zero4.toArray) 4 56 Tryd.underlying29 hi0 hz0 hz1 hz2 rfl (by decide) (.slice a1 k c1) k ((valL O n m k).flatMap cellsF) rfl J5.out.row ⟨T, 0, none⟩ 1 1 (cellsF z) rfl (cellsF_len z) C5.out (cellsF_one z) (by unfold maxLen; omega) (by omega) J5.out.sz ?_
        intro v' w6 hown' hgrow hat
        obtain ⟨g, cap, rfl, hgb, hgl⟩ := Kit.ownsRow_succ' hown'
        have hm6 : Moved (fun j => bv + 1 ≤ j) W5 w6 := (Kit.Moved.of_grownBy hgrow).mono fun j _ hj => (J5.out.row.lt j hj).1
        have hsz5 := J5.out.sz
        have hlt5 := J5.out.lt
        have S6 := Lib.hid (Val.cell_moved J5.out.t1 hm6 (by omega))
        have x3 := Val.cell_moved J5.out.v.c.2.2.2 hm6 (by omega)
        have y3 := (J5.out.v.moved hm6 (by omega)).f 3
        rw [HZ.out, HQ.out.1] at hown'
        have P6 := Lib.hid (J5.out.push hgrow hown')
        clear hown' hgrow hat hgb hgl hm6
        refine hK.out _ _ S6.out (fun hHeld => ?_)
        clear hK K0
        try simp only [Act.put, List.setIfInBounds_toArray, List.set_cons_zero, List.set_cons_succ]
        refine wpAnyH_take (i := 13) (v := .pointer (some ⟨bv, 3, none⟩)) Kit.at13 (by kernel_rfl) (by kernel_rfl) (by kernel_rfl) (fun _ _ _ h => h) (Or.inl ⟨by rfl, fun w hw => ?_⟩) hHeld ?_
        case' refine_1 => go_simp
        try simp only [Act.put, List.setIfInBounds_toArray, List.set_cons_zero, List.set_cons_succ]
        refine wpAnyH_ready (rs := [14]) (by kernel_rfl) (by simp) ?_
        refine AllReadyH.cons Kit.at14 (fun K0 hK => ?_) AllReadyH.nil
        go_simp
        refine hK.out _ _ P6.out.t1 (fun _ => wpAnyH_done (by kernel_rfl) ?_ _)
        clear hK K0
        go_wp2
        go_roundw
        case rel => exact ⟨k + 1, .slice (some ⟨g, 0, none⟩) (k + 1) cap, by omega, by go_num, P6.out⟩
        case measure => simp [intOf]; omega
    · have hkk : k = P := by omega
      subst hkk
      have i1 : ¬ (k : Int) < (k : Int) := by omega
      obtain ⟨⟨x0, x1, x2, x3⟩, xf⟩ := J1.out.v
      obtain ⟨⟨y0, y1, y2, y3⟩, yf⟩ := J1.out.res
      have yf0 := yf 0
      have yf1 := yf 1
      have yf2 := yf 2
      have yf3 := yf 3
      have hlt := J1.out.lt
      have hm4 := end4b (w.heap.size + 1) wr (.int .i64 5) (.int .i64 0) (.string ⟨#[]⟩) (.slice a1 k c1)
      clear xf yf hc
      go_wp2_with fail
      refine (HP.out _).mono ?_; rintro e W1 ⟨rfl, rfl⟩
      go_wp2
      refine bodyPost_ret (v := aggV 5 0 ⟨#[]⟩ (.slice a1 k c1)) (by simp [results, Tryd.results19, go_sem, y0, y1, y2, y3]) rfl ⟨⟨.slice a1 k c1, rfl, ?_, ?_⟩, ?_⟩
      · refine repL_own (e := 31) (base := bv + 1) (Kit.ownsRow_kept J1.out.row fun j hj => ?_) (valL_len _ _ _ _).symm (valL_flat _ _ _ _) J1.out.nil
        have hj2 := J1.out.row.lt j hj
        exact hm4.block j hj2.2 (by omega)
      · intro j h2
        have := (J1.out.row.lt j h2).1
        omega
      · exact J1.out.below.trans (hm4.below (fun j hj => by omega) (by have := J1.out.sz; omega))
end Go.Proofs.YtmobnlofbopbeaaDoor.Cls
