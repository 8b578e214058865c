/- Layer 3's laws: ValOf. -/
import Derived.Test.YtbmhlpojgiminaaGreatDoorLaw3
import Derived.Deep.RegionHeld
namespace Go.Proofs.YtbmhlpojgiminaaGreatDoor.Val
open Go.RowKit
open Kit (ret_int ret_bool Moved)

/-- Raw numbers of a value that is no list. -/
structure RawOne where
  k : Int
  n : Int
  s : ByteArray
structure RawOne.Ok (x : RawOne) : Prop where
  k1 : -9223372036854775808 ≤ x.k
  k2 : x.k ≤ 9223372036854775807
  n1 : -9223372036854775808 ≤ x.n
  n2 : x.n ≤ 9223372036854775807
  s : x.s.size ≤ 140737488351232
/-- Raw numbers of a value. -/
structure Raw where
  k : Int
  n : Int
  s : ByteArray
  l : List RawOne
structure Raw.Ok (x : Raw) : Prop where
  o : RawOne.Ok ⟨x.k, x.n, x.s⟩
  l : ∀ y ∈ x.l, y.Ok

/-- Where a list of raw numbers lies. -/
def RawL (w : World) (l : List RawOne) (lv : Value) : Prop :=
  (l = [] ∧ ∃ a c, lv = .slice a 0 c) ∨ ∃ b o c, lv = .slice (some ⟨b, o, none⟩) l.length c ∧ l.length ≤ maxLen ∧ ∀ (i : Nat) (x : RawOne), l[i]? = some x →
    w.cell? ⟨b, o + i * 3, none⟩ = some (.int .i64 x.k) ∧ w.cell? ⟨b, o + i * 3 + 1, none⟩ = some (.int .i64 x.n) ∧ w.cell? ⟨b, o + i * 3 + 2, none⟩ = some (.string x.s)
theorem RawL.below {w w' : World} {l : List RawOne} {lv : Value} (h : RawL w l lv) (hB : Below w.heap.size w w') : RawL w' l lv := by
  rcases h with h | ⟨b, o, c, h1, h2, h3⟩
  · exact .inl h
  · refine .inr ⟨b, o, c, h1, h2, fun i x hx => ?_⟩
    obtain ⟨p, q, r⟩ := h3 i x hx
    have hb := Kit.lt_of_cell p
    exact ⟨(hB.cell (p := ⟨b, o + i * 3, none⟩) hb).trans p, (hB.cell (p := ⟨b, o + i * 3 + 1, none⟩) hb).trans q, (hB.cell (p := ⟨b, o + i * 3 + 2, none⟩) hb).trans r⟩
theorem RawL.len {w : World} {l : List RawOne} {lv : Value} (h : RawL w l lv) : ∃ a c, lv = .slice a l.length c ∧ l.length ≤ maxLen := by
  rcases h with ⟨rfl, a, c, h⟩ | ⟨b, o, c, h1, h2, _⟩
  · exact ⟨a, c, h, Nat.zero_le _⟩
  · exact ⟨_, c, h1, h2⟩

/-- Of a raw number that stands in a list, a value. -/
def oneOf (x : RawOne) : Vl := valOne (pickN x.k 5) x.n x.s
/-- Of raw numbers, a right value. -/
def valOf (x : Raw) : Vl :=
  if pickN x.k 7 < 5 then
    (if 3 ≤ (valOne (pickN x.k 7) x.n x.s).k ∧ pickN (x.k.tdiv 7) 4 = 0 then flat (valOne (pickN x.k 7) x.n x.s).k (-1 - (pickN x.n 20 : Int)) (valOne (pickN x.k 7) x.n x.s).s else valOne (pickN x.k 7) x.n x.s)
  else .mk 5 0 (bs []) ((x.l.take 12).map oneOf)

theorem valOne_ref {k n : Int} {s : ByteArray} (h : 3 ≤ (valOne k n s).k) : (k = 3 ∨ k = 4) ∧ valOne k n s = flat k (1 + (pickN n 100000 : Int)) (bs []) := by
  unfold valOne at h ⊢
  split at h
  · exact absurd h (by simp only [Vl.k]; decide)
  · rename_i h1
    split at h
    · exact absurd h (by simp only [Vl.k]; decide)
    · rename_i h2
      split at h
      · rename_i h3
        exact ⟨h3, by rw [if_neg h1, if_neg h2, if_pos h3]⟩
      · exact absurd h (by simp only [Vl.k]; decide)
theorem valOf_right (x : Raw) : rightV (valOf x) = true := by
  unfold valOf
  split
  · rename_i h5
    have ho := valOne_right (pickN x.k 7) x.n x.s
    split
    · rename_i h
      obtain ⟨hk, he⟩ := valOne_ref h.1
      rw [he]
      have hp := pickN_lt x.n (n := 20) (by decide)
      unfold rightV
      rw [if_neg (by show ¬ (pickN x.k 7 : Int) = 5; omega)]
      unfold rightF
      rw [if_neg (by show ¬ (pickN x.k 7 : Int) = 2; omega)]
      show (rightN (pickN x.k 7 : Int) (-1 - (pickN x.n 20 : Int)) && (bs []).data.toList.isEmpty && List.isEmpty ([] : List Vl)) = true
      rw [rightN_ref hk (by omega)]
      rfl
    · unfold rightV
      rw [if_neg ho.2]; exact ho.1
  · unfold rightV
    rw [if_pos (by rfl)]
    show (decide (((x.l.take 12).map oneOf).length ≤ 12) && (0 : Int) == 0 && (bs []).data.toList.isEmpty && !((x.l.take 12).map oneOf).any wrongIn) = true
    rw [decide_eq_true (by simp; omega)]
    have : ((x.l.take 12).map oneOf).any wrongIn = false := by
      rw [List.any_eq_false]
      intro y hy
      obtain ⟨z, _, rfl⟩ := List.mem_map.1 hy
      have := valOne_right (pickN z.k 5) z.n z.s
      unfold wrongIn oneOf
      rw [this.1]
      simp only [Bool.not_true, Bool.or_false, beq_iff_eq]
      exact this.2
    rw [this]; rfl
theorem valOf_flat (x : Raw) : ∀ y ∈ (valOf x).l, y.isFlat := by
  unfold valOf
  split
  · split
    · intro y hy; cases hy
    · intro y hy
      rw [show (valOne _ _ _).l = [] from valOne_flat _ _ _] at hy
      cases hy
  · intro y hy
    obtain ⟨z, _, rfl⟩ := List.mem_map.1 hy
    exact valOne_flat _ _ _

/-- What lies in the round of making a list of raw numbers. -/
structure OJ (w : World) (x : Raw) (xlv : Value) (k : Nat) (lv : Value) (W : World) : Prop where
  box : Kit.Box4 W w.heap.size (.int .i64 x.k) (.int .i64 x.n) (.string x.s) xlv
  res : BoxF W (w.heap.size + 1) (.int .i64 0) (.int .i64 0) (.string ⟨#[]⟩) (.slice none 0 0)
  v : BoxF W (w.heap.size + 2) (.int .i64 5) (.int .i64 0) (.string ⟨#[]⟩) lv
  row : W.ownsRow (w.heap.size + 3) 30 4 lv k (((x.l.take k).map oneOf).flatMap cellsF)
  nil : k = 0 → lv = .slice none 0 0
  below : Below w.heap.size w W
  sz : w.heap.size + 3 ≤ W.heap.size
theorem OJ.later {w : World} {x : Raw} {xlv : Value} {k : Nat} {lv : Value} {W W' : World} (h : OJ w x xlv k lv W) (hB : Below W.heap.size W W') : OJ w x xlv k lv W' := by
  have hz := hB.size
  have hs := h.sz
  exact ⟨h.box.below hB h.box.lt, h.res.moved (Kit.Moved.of_below hB) (by omega), h.v.moved (Kit.Moved.of_below hB) (by omega), Kit.ownsRow_kept h.row (fun j hj => hB.block j (h.row.lt j hj).2), h.nil, h.below.trans (hB.mono h.below.size), by omega⟩
theorem OJ.slice {w : World} {x : Raw} {xlv : Value} {k : Nat} {lv : Value} {W : World} (h : OJ w x xlv k lv W) : ∃ a c, lv = .slice a k c := by
  rcases h.row.2 with ⟨h1, h2⟩ | ⟨g, cap, cur, h1, _⟩
  · exact ⟨none, 0, by rw [h1, h2]⟩
  · exact ⟨_, _, h1⟩
/-- One more is appended, and the list set. -/
theorem OJ.push {w : World} {x : Raw} {xlv : Value} {k : Nat} {lv v' : Value} {W w6 : World} {y : RawOne} (h : OJ w x xlv k lv W) (hy : x.l[k]? = some y) (h12 : k < 12) (hg : W.grownBy w6 lv.ownBlock)
    (hown : w6.ownsRow (w.heap.size + 3) 30 4 v' (k + 1) (((x.l.take k).map oneOf).flatMap cellsF ++ cellsF (oneOf y))) : OJ w x xlv (k + 1) v' (w6.setCell ⟨w.heap.size + 2, 3, none⟩ v') := by
  have hm : Moved (fun j => w.heap.size + 3 ≤ j) W w6 := (Kit.Moved.of_grownBy hg).mono fun j _ hj => (h.row.lt j hj).1
  have hms : Moved (fun j => j = w.heap.size + 2) w6 (w6.setCell ⟨w.heap.size + 2, 3, none⟩ v') := Kit.Moved.setCell _ _ _ _ rfl
  have hmt : Moved (fun j => w.heap.size + 2 ≤ j) W (w6.setCell ⟨w.heap.size + 2, 3, none⟩ v') := (hm.mono (T := fun j => w.heap.size + 2 ≤ j) (fun j _ hj => by omega)).trans hms (fun j _ hj => by omega)
  have hsz := h.sz
  have hz6 := hmt.size
  obtain ⟨hk, he⟩ := List.getElem?_eq_some_iff.1 hy
  have hb4 : Kit.Box4 (w6.setCell ⟨w.heap.size + 2, 3, none⟩ v') w.heap.size (.int .i64 x.k) (.int .i64 x.n) (.string x.s) xlv :=
    ⟨cell_moved h.box.1 hmt (by omega), cell_moved h.box.2.1 hmt (by omega), cell_moved h.box.2.2.1 hmt (by omega), cell_moved h.box.2.2.2 hmt (by omega)⟩
  refine ⟨hb4, h.res.moved hmt (by omega), (h.v.moved hm (by omega)).set3 v', ?_, fun h => by omega, h.below.trans (hmt.below (fun j hj => by omega) (by omega)), by omega⟩
  · rw [List.take_succ_eq_append_getElem hk, List.map_append, List.flatMap_append, he]
    refine Kit.ownsRow_kept (xs := ((x.l.take k).map oneOf).flatMap cellsF ++ ([y].map oneOf).flatMap cellsF) (by simpa using hown) fun j hj => hms.block j (hown.lt j hj).2 (by have := (hown.lt j hj).1; omega)

/-- An array's cells. -/
theorem newCells (W : World) (cs : List Value) {T : TypeId} : ∀ (j : Nat) (u : Value), cs[j]? = some u → (W.alloc (.cells cs.toArray T)).cell? ((⟨W.heap.size, 0, none⟩ : Addr).add j) = some u := fun j u hu => by
  rw [Addr.add_mid]; exact Kit.cell_new W _ _ (0 + j) (by simpa using hu)

theorem of_begins (w : World) (x : Raw) (xlv : Value) : OJ w x xlv 0 (.slice none 0 0) (((w.alloc (.cells #[.int .i64 x.k, .int .i64 x.n, .string x.s, xlv] 24)).alloc (.cells #[.int .i64 0, .int .i64 0, .string ⟨#[]⟩, .slice none 0 0] 30)).alloc (.cells #[.int .i64 5, .int .i64 0, .string ⟨#[]⟩, .slice none 0 0] 30)) := by
  refine ⟨((Kit.box4_new _ _ _ _ _ _).kept _).kept _, ?_, ?_, World.ownsRow_nil _ _ _ _, fun _ => rfl, (Kit.below_alloc2 _ _ _).alloc (by simp; omega) _, by simp⟩
  · have h := boxF_new (w.alloc (.cells #[.int .i64 x.k, .int .i64 x.n, .string x.s, xlv] 24)) (.int .i64 0) (.int .i64 0) (.string ⟨#[]⟩) (.slice none 0 0) 30
    rw [World.size_alloc] at h
    exact h.alloc _
  · have h := boxF_new ((w.alloc (.cells #[.int .i64 x.k, .int .i64 x.n, .string x.s, xlv] 24)).alloc (.cells #[.int .i64 0, .int .i64 0, .string ⟨#[]⟩, .slice none 0 0] 30)) (.int .i64 5) (.int .i64 0) (.string ⟨#[]⟩) (.slice none 0 0) 30
    rw [World.size_alloc, World.size_alloc] at h
    exact h

/-- What ValOf answers. -/
def OfPost (w : World) (x : Raw) (e : Ending) (w' : World) : Prop := (∃ lv, e = .returned (aggV (valOf x).k (valOf x).n (valOf x).s lv) ∧ RepL w'.heap.size w' (valOf x).l lv ∧ Fresh w.heap.size lv) ∧ Below w.heap.size w w'

set_option maxRecDepth 100000 in
set_option maxHeartbeats 4000000 in
theorem of_list (x : Raw) (hx : x.Ok) (w : World) (xlv : Value) (hl : RawL w x.l xlv) (h7 : ¬ pickN x.k 7 < 5) :
    Calls Tryz.prog 5 #[.agg #[.int .i64 x.k, .int .i64 x.n, .string x.s, xlv]] w (OfPost w x) := by
  have hv : valOf x = .mk 5 0 (bs []) ((x.l.take 12).map oneOf) := by unfold valOf; rw [if_neg h7]
  obtain ⟨xa, xc, rfl, xz⟩ := hl.len
  unfold maxLen at xz
  have hP := pick_any x.k hx.o.k1 hx.o.k2 7 (by decide) (by decide)
  have h7z : ¬ (pickN x.k 7 : Int) < 5 := by omega
  generalize pickN x.k 7 = K at *
  have HP := Lib.hid hP
  have HX := Lib.hid (And.intro hx (And.intro hl hv))
  have HB := Lib.hid (of_begins w x (.slice xa x.l.length xc))
  have c0 : ((w.alloc (.cells #[.int .i64 x.k, .int .i64 x.n, .string x.s, .slice xa x.l.length xc] 24)).alloc (.cells #[.int .i64 0, .int .i64 0, .string ⟨#[]⟩, .slice none 0 0] 30)).cell? ⟨w.heap.size, 0, none⟩ = some (.int .i64 x.k) := ((Kit.box4_new _ _ _ _ _ _).kept _).1
  clear hx hl hv hP h7
  obtain ⟨i0, hi0, hz0, hz1, hz2⟩ := info_parts vInfo3
  go_enter Tryz.func5, Tryz.ntmps5
  go_wp2_with fail
  refine (HP.out _).mono ?_; rintro e w' ⟨rfl, rfl⟩
  go_wp2
  change Code.wp _ _ _ _ (((w.alloc (.cells #[.int .i64 x.k, .int .i64 x.n, .string x.s, .slice xa x.l.length xc] 24)).alloc (.cells #[.int .i64 0, .int .i64 0, .string ⟨#[]⟩, .slice none 0 0] 30)).alloc (.cells #[.int .i64 5, .int .i64 0, .string ⟨#[]⟩, .slice none 0 0] 30))
  generalize ((w.alloc (.cells #[.int .i64 x.k, .int .i64 x.n, .string x.s, .slice xa x.l.length xc] 24)).alloc (.cells #[.int .i64 0, .int .i64 0, .string ⟨#[]⟩, .slice none 0 0] 30)).alloc (.cells #[.int .i64 5, .int .i64 0, .string ⟨#[]⟩, .slice none 0 0] 30) = W0 at *
  clear c0
  go_loopw [6] (fun i wr => ∃ (k : Nat) (lv : Value), k ≤ x.l.length ∧ k ≤ 12 ∧ i = .int .i64 k ∧ OJ w x (.slice xa x.l.length xc) k lv wr) (fun i _ => 12 - (intOf i).toNat)
  case atStart => exact ⟨0, _, by omega, by omega, rfl, HB.out⟩
  case round =>
    obtain ⟨k, lv, hkl, hk12, rfl, hJ⟩ := hrel
    obtain ⟨a1, c1, rfl⟩ := hJ.slice
    obtain ⟨b0, b1, b2, b3⟩ := hJ.box
    have J0 := Lib.hid hJ
    clear HB hJ HP
    by_cases hc : k < x.l.length ∧ k < 12
    · obtain ⟨hlt, h12⟩ := hc
      obtain ⟨y, hy0⟩ : ∃ y, x.l[k]? = some y := ⟨_, List.getElem?_eq_getElem hlt⟩
      have hy := HX.out.1.l y (List.mem_of_getElem? hy0)
      have HY := Lib.hid hy0
      obtain ⟨rb, ro, rc, hre, hrr⟩ : ∃ rb ro rc, (Value.slice xa x.l.length xc = .slice (some ⟨rb, ro, none⟩) x.l.length rc) ∧ ∀ W, Below w.heap.size w W → W.cell? ⟨rb, ro + k * 3, none⟩ = some (.int .i64 y.k) ∧ W.cell? ⟨rb, ro + k * 3 + 1, none⟩ = some (.int .i64 y.n) ∧ W.cell? ⟨rb, ro + k * 3 + 2, none⟩ = some (.string y.s) := by
        rcases HX.out.2.1 with ⟨h1, _⟩ | ⟨b, o, c, h1, _, _⟩
        · rw [h1] at hlt; simp at hlt
        · refine ⟨b, o, c, h1, fun W hW => ?_⟩
          rcases HX.out.2.1.below hW with ⟨h2, _⟩ | ⟨b', o', c', h2, _, h3⟩
          · rw [h2] at hlt; simp at hlt
          · rw [h1] at h2; cases h2; exact h3 k y hy0
      cases hre
      have HRR := Lib.hid hrr
      obtain ⟨z, hz⟩ : ∃ z, z = oneOf y := ⟨_, rfl⟩
      have hv1 := fun W => valOne_any (pickN y.k 5) y.k y.n y.s hy.n1 hy.n2 hy.s W
      rw [show valOne (pickN y.k 5) y.n y.s = z from hz.symm] at hv1
      have HZ1 := Lib.hid hv1
      have HZ := Lib.hid hz
      have i1 : (k : Int) < (x.l.length : Int) := by omega
      have i2 : (k : Int) < 12 := by omega
      have i3 : (0 : Int) ≤ (k : Int) := by omega
      have hss : ∀ W, OJ w x (.slice (some ⟨rb, ro, none⟩) x.l.length xc) k (.slice a1 k c1) W → W.cell? ⟨w.heap.size, 3, none⟩ = some (.slice (some ⟨rb, ro, none⟩) x.l.length xc) ∧ W.cell? ⟨rb, ro + k * 3, none⟩ = some (.int .i64 y.k) ∧ W.cell? ⟨rb, ro + k * 3 + 1, none⟩ = some (.int .i64 y.n) ∧ W.cell? ⟨rb, ro + k * 3 + 2, none⟩ = some (.string y.s) := fun W h => ⟨h.box.2.2.2, HRR.out W h.below⟩
      have HSS := Lib.hid hss
      clear hy0 hrr hz hv1 hss
      go_wp2
      refine wp_region_held_drew (S := fun W => W.cell? ⟨w.heap.size, 3, none⟩ = some (.slice (some ⟨rb, ro, none⟩) x.l.length xc) ∧ W.cell? ⟨rb, ro + k * 3, none⟩ = some (.int .i64 y.k) ∧ W.cell? ⟨rb, ro + k * 3 + 1, none⟩ = some (.int .i64 y.n) ∧ W.cell? ⟨rb, ro + k * 3 + 2, none⟩ = some (.string y.s)) (by kernel_rfl) (HSS.out wr J0.out) (fun hHeld => ?_)
      have J1 := Lib.hid (J0.out.later (W' := wr.drew) ((Below.refl _ _).drew))
      clear J0 b0 b1 b2 b3
      generalize wr.drew = W1 at *
      refine wpAnyH_take (i := 0) (v := .pointer (some ⟨w.heap.size + 2, 3, none⟩)) Kit.at0 (by kernel_rfl) (by kernel_rfl) (by kernel_rfl) (fun _ _ _ h => h) (Or.inl ⟨by rfl, fun w hw => ?_⟩) hHeld ?_
      case' refine_1 => obtain ⟨s0, s1, s2, s3⟩ := hw; go_simp
      try simp only [Act.put, List.setIfInBounds_toArray, List.set_cons_zero, List.set_cons_succ]
      refine wpAnyH_take (i := 2) (v := .pointer (some ⟨w.heap.size, 3, none⟩)) Kit.at2 (by kernel_rfl) (by kernel_rfl) (by kernel_rfl) (fun _ _ _ h => h) (Or.inl ⟨by rfl, fun w hw => ?_⟩) hHeld ?_
      case' refine_1 => obtain ⟨s0, s1, s2, s3⟩ := hw; go_simp
      try simp only [Act.put, List.setIfInBounds_toArray, List.set_cons_zero, List.set_cons_succ]
      refine wpAnyH_take (i := 3) (v := (.slice (some ⟨rb, ro, none⟩) x.l.length xc)) Kit.at3 (by kernel_rfl) (by kernel_rfl) (by kernel_rfl) (fun _ _ _ h => h) (Or.inl ⟨by rfl, fun w hw => ?_⟩) hHeld ?_
      case' refine_1 => obtain ⟨s0, s1, s2, s3⟩ := hw; go_simp
      try simp only [Act.put, List.setIfInBounds_toArray, List.set_cons_zero, List.set_cons_succ]
      refine wpAnyH_take (i := 4) (v := .int .i64 (k : Int)) Kit.at4 (by kernel_rfl) (by kernel_rfl) (by kernel_rfl) (fun _ _ _ h => h) (Or.inl ⟨by rfl, fun w hw => ?_⟩) hHeld ?_
      case' refine_1 => obtain ⟨s0, s1, s2, s3⟩ := hw; go_simp
      try simp only [Act.put, List.setIfInBounds_toArray, List.set_cons_zero, List.set_cons_succ]
      refine wpAnyH_take (i := 5) (v := .pointer (some ⟨rb, ro + k * 3, none⟩)) Kit.at5 (by kernel_rfl) (by kernel_rfl) (by kernel_rfl) (fun _ _ _ h => h) (Or.inl ⟨by rfl, fun w hw => ?_⟩) hHeld ?_
      case' refine_1 => obtain ⟨s0, s1, s2, s3⟩ := hw; go_simp
      try simp only [Act.put, List.setIfInBounds_toArray, List.set_cons_zero, List.set_cons_succ]
      refine wpAnyH_take (i := 6) (v := .pointer (some ⟨rb, ro + k * 3, none⟩)) Kit.at6 (by kernel_rfl) (by kernel_rfl) (by kernel_rfl) (fun _ _ _ h => h) (Or.inl ⟨by rfl, fun w hw => ?_⟩) hHeld ?_
      case' refine_1 => obtain ⟨s0, s1, s2, s3⟩ := hw; go_simp
      try simp only [Act.put, List.setIfInBounds_toArray, List.set_cons_zero, List.set_cons_succ]
      refine wpAnyH_take (i := 7) (v := .int .i64 y.k) Kit.at7 (by kernel_rfl) (by kernel_rfl) (by kernel_rfl) (fun _ _ _ h => h) (Or.inl ⟨by rfl, fun w hw => ?_⟩) hHeld ?_
      case' refine_1 => obtain ⟨s0, s1, s2, s3⟩ := hw; go_simp
      try simp only [Act.put, List.setIfInBounds_toArray, List.set_cons_zero, List.set_cons_succ]
      refine wpAnyH_take (i := 9) (v := .pointer (some ⟨w.heap.size, 3, none⟩)) Kit.at9 (by kernel_rfl) (by kernel_rfl) (by kernel_rfl) (fun _ _ _ h => h) (Or.inl ⟨by rfl, fun w hw => ?_⟩) hHeld ?_
      case' refine_1 => obtain ⟨s0, s1, s2, s3⟩ := hw; go_simp
      try simp only [Act.put, List.setIfInBounds_toArray, List.set_cons_zero, List.set_cons_succ]
      refine wpAnyH_take (i := 10) (v := (.slice (some ⟨rb, ro, none⟩) x.l.length xc)) Kit.at10 (by kernel_rfl) (by kernel_rfl) (by kernel_rfl) (fun _ _ _ h => h) (Or.inl ⟨by rfl, fun w hw => ?_⟩) hHeld ?_
      case' refine_1 => obtain ⟨s0, s1, s2, s3⟩ := hw; go_simp
      try simp only [Act.put, List.setIfInBounds_toArray, List.set_cons_zero, List.set_cons_succ]
      refine wpAnyH_take (i := 11) (v := .int .i64 (k : Int)) Kit.at11 (by kernel_rfl) (by kernel_rfl) (by kernel_rfl) (fun _ _ _ h => h) (Or.inl ⟨by rfl, fun w hw => ?_⟩) hHeld ?_
      case' refine_1 => obtain ⟨s0, s1, s2, s3⟩ := hw; go_simp
      try simp only [Act.put, List.setIfInBounds_toArray, List.set_cons_zero, List.set_cons_succ]
      refine wpAnyH_take (i := 12) (v := .pointer (some ⟨rb, ro + k * 3, none⟩)) Kit.at12 (by kernel_rfl) (by kernel_rfl) (by kernel_rfl) (fun _ _ _ h => h) (Or.inl ⟨by rfl, fun w hw => ?_⟩) hHeld ?_
      case' refine_1 => obtain ⟨s0, s1, s2, s3⟩ := hw; go_simp
      try simp only [Act.put, List.setIfInBounds_toArray, List.set_cons_zero, List.set_cons_succ]
      refine wpAnyH_take (i := 13) (v := .agg #[.int .i64 y.k, .int .i64 y.n, .string y.s]) Kit.at13 (by kernel_rfl) (by kernel_rfl) (by kernel_rfl) (fun _ _ _ h => h) (Or.inl ⟨by rfl, fun w hw => ?_⟩) hHeld ?_
      case' refine_1 => obtain ⟨s0, s1, s2, s3⟩ := hw; go_simp
      try simp only [Act.put, List.setIfInBounds_toArray, List.set_cons_zero, List.set_cons_succ]
      refine wpAnyH_ready (rs := [1, 8]) (by kernel_rfl) (by simp) ?_
      refine AllReadyH.cons (Kit.at1) (fun K hK => ?t1) (AllReadyH.cons Kit.at8 (fun K hK => ?t8) AllReadyH.nil)
      case' t1 =>
        have q := J1.out.v.c.2.2.2
        go_simp
        refine hK.out _ _ (HSS.out _ J1.out) (fun hHeld => ?_)
        clear hK K q
        try simp only [Act.put, List.setIfInBounds_toArray, List.set_cons_zero, List.set_cons_succ]
        refine wpAnyH_ready (rs := [8]) (by kernel_rfl) (by simp) ?_
        refine AllReadyH.cons Kit.at8 (fun K hK => ?_) AllReadyH.nil
        go_simp
        refine (pick_any y.k hy.k1 hy.k2 5 (by decide) (by decide) _).mono ?_; rintro e w' ⟨rfl, rfl⟩
        refine hK.out _ _ (HSS.out _ J1.out) (fun hHeld => ?_)
        clear hK K
        try simp only [Act.put, List.setIfInBounds_toArray, List.set_cons_zero, List.set_cons_succ]
        refine wpAnyH_ready (rs := [14]) (by kernel_rfl) (by simp) ?_
        refine AllReadyH.cons Kit.at14 (fun K hK => ?_) AllReadyH.nil
        go_simp
        refine (HZ1.out _).mono ?_; rintro e Wc ⟨rfl, hBc⟩
        have Jc := Lib.hid (J1.out.later hBc)
        refine hK.out _ _ (HSS.out _ Jc.out) (fun hHeld => ?_)
        clear hK K hBc J1
        try simp only [Act.put, List.setIfInBounds_toArray, List.set_cons_zero, List.set_cons_succ]
        refine wpAnyH_ready (rs := [15]) (by kernel_rfl) (by simp) ?_
        refine AllReadyH.cons Kit.at15 (fun K hK => ?_) AllReadyH.nil
        have Jb := Lib.hid (Jc.out.later (Kit.below_alloc Wc (.cells (cellsF z).toArray 30)))
        have Cb := Lib.hid (newCells Wc (cellsF z) (T := 30))
        refine Kit.step_buildSlice_one rfl 28 30 _ rfl (cellsF z) rfl i0 _ Tryz.underlying28 hi0 hz0 (hz1.trans rfl) (by rw [cellsF_len]; decide) (by rw [cellsF_len]; decide) ?_
        refine hK.out _ _ (HSS.out _ Jb.out) (fun hHeld => ?_)
        clear hK K Jc
        try simp only [Act.put, List.setIfInBounds_toArray, List.set_cons_zero, List.set_cons_succ]
        generalize Wc.alloc (.cells (cellsF z).toArray 30) = Wb at *
        generalize Wc.heap.size = T at *
        obtain ⟨J5, C5⟩ : Hid (OJ w x (.slice (some ⟨rb, ro, none⟩) x.l.length xc) k (.slice a1 k c1) Wb) ∧ Hid (∀ (j : Nat) (u : Value), (cellsF z)[j]? = some u → Wb.cell? ((⟨T, 0, none⟩ : Addr).add j) = some u) := ⟨Jb, Cb⟩
        clear Jb Cb
        generalize Wb = W5 at *
      case' t8 =>
        go_simp
        refine (pick_any y.k hy.k1 hy.k2 5 (by decide) (by decide) _).mono ?_; rintro e w' ⟨rfl, rfl⟩
        refine hK.out _ _ (HSS.out _ J1.out) (fun hHeld => ?_)
        clear hK K
        try simp only [Act.put, List.setIfInBounds_toArray, List.set_cons_zero, List.set_cons_succ]
        refine wpAnyH_ready (rs := [1, 14]) (by kernel_rfl) (by simp) ?_
        refine AllReadyH.cons (Kit.at1) (fun K hK => ?t81) (AllReadyH.cons Kit.at14 (fun K hK => ?t814) AllReadyH.nil)
        case' t81 =>
          have q := J1.out.v.c.2.2.2
          go_simp
          refine hK.out _ _ (HSS.out _ J1.out) (fun hHeld => ?_)
          clear hK K q
          try simp only [Act.put, List.setIfInBounds_toArray, List.set_cons_zero, List.set_cons_succ]
          refine wpAnyH_ready (rs := [14]) (by kernel_rfl) (by simp) ?_
          refine AllReadyH.cons Kit.at14 (fun K hK => ?_) AllReadyH.nil
          go_simp
          refine (HZ1.out _).mono ?_; rintro e Wc ⟨rfl, hBc⟩
          have Jc := Lib.hid (J1.out.later hBc)
          refine hK.out _ _ (HSS.out _ Jc.out) (fun hHeld => ?_)
          clear hK K hBc J1
          try simp only [Act.put, List.setIfInBounds_toArray, List.set_cons_zero, List.set_cons_succ]
          refine wpAnyH_ready (rs := [15]) (by kernel_rfl) (by simp) ?_
          refine AllReadyH.cons Kit.at15 (fun K hK => ?_) AllReadyH.nil
          have Jb := Lib.hid (Jc.out.later (Kit.below_alloc Wc (.cells (cellsF z).toArray 30)))
          have Cb := Lib.hid (newCells Wc (cellsF z) (T := 30))
          refine Kit.step_buildSlice_one rfl 28 30 _ rfl (cellsF z) rfl i0 _ Tryz.underlying28 hi0 hz0 (hz1.trans rfl) (by rw [cellsF_len]; decide) (by rw [cellsF_len]; decide) ?_
          refine hK.out _ _ (HSS.out _ Jb.out) (fun hHeld => ?_)
          clear hK K Jc
          try simp only [Act.put, List.setIfInBounds_toArray, List.set_cons_zero, List.set_cons_succ]
          generalize Wc.alloc (.cells (cellsF z).toArray 30) = Wb at *
          generalize Wc.heap.size = T at *
          obtain ⟨J5, C5⟩ : Hid (OJ w x (.slice (some ⟨rb, ro, none⟩) x.l.length xc) k (.slice a1 k c1) Wb) ∧ Hid (∀ (j : Nat) (u : Value), (cellsF z)[j]? = some u → Wb.cell? ((⟨T, 0, none⟩ : Addr).add j) = some u) := ⟨Jb, Cb⟩
          clear Jb Cb
          generalize Wb = W5 at *
        case' t814 =>
          go_simp
          refine (HZ1.out _).mono ?_; rintro e Wc ⟨rfl, hBc⟩
          have Jc := Lib.hid (J1.out.later hBc)
          refine hK.out _ _ (HSS.out _ Jc.out) (fun hHeld => ?_)
          clear hK K hBc J1
          try simp only [Act.put, List.setIfInBounds_toArray, List.set_cons_zero, List.set_cons_succ]
          refine wpAnyH_ready (rs := [1, 15]) (by kernel_rfl) (by simp) ?_
          refine AllReadyH.cons (Kit.at1) (fun K hK => ?t8141) (AllReadyH.cons Kit.at15 (fun K hK => ?t81415) AllReadyH.nil)
          case' t8141 =>
            have q := Jc.out.v.c.2.2.2
            go_simp
            refine hK.out _ _ (HSS.out _ Jc.out) (fun hHeld => ?_)
            clear hK K q
            try simp only [Act.put, List.setIfInBounds_toArray, List.set_cons_zero, List.set_cons_succ]
            refine wpAnyH_ready (rs := [15]) (by kernel_rfl) (by simp) ?_
            refine AllReadyH.cons Kit.at15 (fun K hK => ?_) AllReadyH.nil
            have Jb := Lib.hid (Jc.out.later (Kit.below_alloc Wc (.cells (cellsF z).toArray 30)))
            have Cb := Lib.hid (newCells Wc (cellsF z) (T := 30))
            refine Kit.step_buildSlice_one rfl 28 30 _ rfl (cellsF z) rfl i0 _ Tryz.underlying28 hi0 hz0 (hz1.trans rfl) (by rw [cellsF_len]; decide) (by rw [cellsF_len]; decide) ?_
            refine hK.out _ _ (HSS.out _ Jb.out) (fun hHeld => ?_)
            clear hK K Jc
            try simp only [Act.put, List.setIfInBounds_toArray, List.set_cons_zero, List.set_cons_succ]
            generalize Wc.alloc (.cells (cellsF z).toArray 30) = Wb at *
            generalize Wc.heap.size = T at *
            obtain ⟨J5, C5⟩ : Hid (OJ w x (.slice (some ⟨rb, ro, none⟩) x.l.length xc) k (.slice a1 k c1) Wb) ∧ Hid (∀ (j : Nat) (u : Value), (cellsF z)[j]? = some u → Wb.cell? ((⟨T, 0, none⟩ : Addr).add j) = some u) := ⟨Jb, Cb⟩
            clear Jb Cb
            generalize Wb = W5 at *
          case' t81415 =>
            have Jb := Lib.hid (Jc.out.later (Kit.below_alloc Wc (.cells (cellsF z).toArray 30)))
            have Cb := Lib.hid (newCells Wc (cellsF z) (T := 30))
            refine Kit.step_buildSlice_one rfl 28 30 _ rfl (cellsF z) rfl i0 _ Tryz.underlying28 hi0 hz0 (hz1.trans rfl) (by rw [cellsF_len]; decide) (by rw [cellsF_len]; decide) ?_
            refine hK.out _ _ (HSS.out _ Jb.out) (fun hHeld => ?_)
            clear hK K Jc
            try simp only [Act.put, List.setIfInBounds_toArray, List.set_cons_zero, List.set_cons_succ]
            generalize Wc.alloc (.cells (cellsF z).toArray 30) = Wb at *
            generalize Wc.heap.size = T at *
            refine wpAnyH_ready (rs := [1]) (by kernel_rfl) (by simp) ?_
            refine AllReadyH.cons Kit.at1 (fun K hK => ?_) AllReadyH.nil
            have q := Jb.out.v.c.2.2.2
            go_simp
            refine hK.out _ _ (HSS.out _ Jb.out) (fun hHeld => ?_)
            clear hK K q
            try simp only [Act.put, List.setIfInBounds_toArray, List.set_cons_zero, List.set_cons_succ]
            obtain ⟨J5, C5⟩ : Hid (OJ w x (.slice (some ⟨rb, ro, none⟩) x.l.length xc) k (.slice a1 k c1) Wb) ∧ Hid (∀ (j : Nat) (u : Value), (cellsF z)[j]? = some u → Wb.cell? ((⟨T, 0, none⟩ : Addr).add j) = some u) := ⟨Jb, Cb⟩
            clear Jb Cb
            generalize Wb = W5 at *
      all_goals
        refine wpAnyH_ready (rs := [16]) (by kernel_rfl) (by simp) ?_
        refine AllReadyH.cons Kit.at16 (fun K hK => ?_) AllReadyH.nil
        refine Kit.step_append_own_at rfl _ _ 28 rfl (w.heap.size + 3) 30 i0 (.agg zero4.toArray) 4 56 Tryz.underlying28 hi0 hz0 hz1 hz2 rfl (by decide) (.slice a1 k c1) k (((x.l.take k).map oneOf).flatMap cellsF) rfl J5.out.row ⟨T, 0, none⟩ 1 1 (cellsF z) rfl (cellsF_len z) C5.out (cellsF_one z) (by unfold maxLen; omega) (by omega) J5.out.sz ?_
        intro v' w6 hown' hgrow hat
        obtain ⟨g, cap, rfl, hgb, hgl⟩ := Kit.ownsRow_succ' hown'
        have hm6 : Moved (fun j => w.heap.size + 3 ≤ j) W5 w6 := (Kit.Moved.of_grownBy hgrow).mono fun j _ hj => (J5.out.row.lt j hj).1
        have hsz5 := J5.out.sz
        have B6 := J5.out.below.trans (hm6.below (fun j hj => by omega) (by omega))
        have S6 := Lib.hid (And.intro (cell_moved J5.out.box.2.2.2 hm6 (by omega)) (HRR.out w6 B6))
        have x3 := cell_moved J5.out.v.c.2.2.2 hm6 (by omega)
        have y3 := (J5.out.v.moved hm6 (by omega)).f 3
        rw [HZ.out] at hown'
        have P6 := Lib.hid (J5.out.push HY.out h12 hgrow hown')
        clear hown' hgrow hat hgb hgl hm6 B6
        refine hK.out _ _ S6.out (fun hHeld => ?_)
        clear hK K
        try simp only [Act.put, List.setIfInBounds_toArray, List.set_cons_zero, List.set_cons_succ]
        refine wpAnyH_take (i := 17) (v := .pointer (some ⟨w.heap.size + 2, 3, none⟩)) Kit.at17 (by kernel_rfl) (by kernel_rfl) (by kernel_rfl) (fun _ _ _ h => h) (Or.inl ⟨by rfl, fun w hw => ?_⟩) hHeld ?_
        case' refine_1 => obtain ⟨s0, s1, s2, s3⟩ := hw; go_simp
        try simp only [Act.put, List.setIfInBounds_toArray, List.set_cons_zero, List.set_cons_succ]
        refine wpAnyH_ready (rs := [18]) (by kernel_rfl) (by simp) ?_
        refine AllReadyH.cons Kit.at18 (fun K hK => ?_) AllReadyH.nil
        go_simp
        refine hK.out _ _ ⟨P6.out.box.2.2.2, HRR.out _ P6.out.below⟩ (fun _ => wpAnyH_done (by kernel_rfl) ?_ _)
        clear hK K
        go_wp2
        go_roundw
        case rel => exact ⟨k + 1, .slice (some ⟨g, 0, none⟩) (k + 1) cap, by omega, by omega, by go_num, P6.out⟩
        case measure => simp [intOf]; omega
    · have ht : x.l.take 12 = x.l.take k := by
        rcases Nat.lt_or_ge k x.l.length with hk | hk
        · rw [show k = 12 by omega]
        · rw [List.take_of_length_le hk, List.take_of_length_le (by omega)]
      have hlenk : ((x.l.take k).map oneOf).length = k := by simp; omega
      obtain ⟨⟨x0, x1, x2, x3⟩, xf⟩ := J0.out.v
      obtain ⟨⟨y0, y1, y2, y3⟩, yf⟩ := J0.out.res
      have yf0 := yf 0
      have yf1 := yf 1
      have yf2 := yf 2
      have yf3 := yf 3
      have HT := Lib.hid (And.intro ht hlenk)
      have hne : w.heap.size + 2 ≠ w.heap.size + 1 := by omega
      have hm4 := end4b (w.heap.size + 1) wr (.int .i64 5) (.int .i64 0) (.string (bs [])) (.slice a1 k c1)
      have hcc : (¬ (k : Int) < (x.l.length : Int)) ∨ ((k : Int) < (x.l.length : Int) ∧ ¬ (k : Int) < 12) := by omega
      clear xf yf ht hlenk hc
      rcases hcc with hc | ⟨hc, hc2⟩
      all_goals
        go_wp2
        refine bodyPost_ret (v := aggV 5 0 (bs []) (.slice a1 k c1)) (by simp [results, Tryz.results5, go_sem, y0, y1, y2, y3]) rfl ⟨⟨.slice a1 k c1, by rw [HX.out.2.2]; rfl, ?_, ?_⟩, ?_⟩
        · rw [HX.out.2.2, HT.out.1]
          show RepL _ _ ((x.l.take k).map oneOf) _
          refine repL_own (e := 30) (base := w.heap.size + 3) (Kit.ownsRow_kept J0.out.row fun j hj => ?_) HT.out.2.symm (fun y hy => by obtain ⟨z, _, rfl⟩ := List.mem_map.1 hy; exact valOne_flat _ _ _) J0.out.nil
          have hj2 := J0.out.row.lt j hj
          exact hm4.block j hj2.2 (by omega)
        · intro j h2
          have := (J0.out.row.lt j h2).1
          omega
        · exact J0.out.below.trans (hm4.below (fun j hj => by omega) (by have := J0.out.sz; omega))
theorem of_two {w Wc : World} {x : Raw} {xlv : Value} (hB : Below ((w.alloc (.cells #[.int .i64 x.k, .int .i64 x.n, .string x.s, xlv] 24)).alloc (.cells #[.int .i64 0, .int .i64 0, .string ⟨#[]⟩, .slice none 0 0] 30)).heap.size ((w.alloc (.cells #[.int .i64 x.k, .int .i64 x.n, .string x.s, xlv] 24)).alloc (.cells #[.int .i64 0, .int .i64 0, .string ⟨#[]⟩, .slice none 0 0] 30)) Wc) :
    Kit.Box4 Wc w.heap.size (.int .i64 x.k) (.int .i64 x.n) (.string x.s) xlv ∧ BoxF Wc (w.heap.size + 1) (.int .i64 0) (.int .i64 0) (.string ⟨#[]⟩) (.slice none 0 0) ∧ Below w.heap.size w Wc ∧ w.heap.size + 2 ≤ Wc.heap.size := by
  have hb := (Kit.box4_new w (.int .i64 x.k) (.int .i64 x.n) (.string x.s) xlv 24).kept (.cells #[.int .i64 0, .int .i64 0, .string ⟨#[]⟩, .slice none 0 0] 30)
  have h := boxF_new (w.alloc (.cells #[.int .i64 x.k, .int .i64 x.n, .string x.s, xlv] 24)) (.int .i64 0) (.int .i64 0) (.string ⟨#[]⟩) (.slice none 0 0) 30
  have hz := hB.size
  simp only [World.size_alloc] at hz h
  exact ⟨hb.below hB hb.lt, h.moved (Kit.Moved.of_below hB) (by simp), (Kit.below_alloc2 w _ _).trans (hB.mono (by simp; omega)), by omega⟩
theorem of_end {n : Nat} (Wc : World) (o : Obj) (v0 v1 v2 v3 : Value) (h : n + 2 ≤ Wc.heap.size) : Below n Wc (((((Wc.alloc o).setCell ⟨n + 1, 0, none⟩ v0).setCell ⟨n + 1, 1, none⟩ v1).setCell ⟨n + 1, 2, none⟩ v2).setCell ⟨n + 1, 3, none⟩ v3) :=
  ((Kit.below_alloc Wc o).mono (by omega)).trans ((end4b (n + 1) (Wc.alloc o) v0 v1 v2 v3).below (fun j hj => by omega) (by simp; omega))
set_option maxRecDepth 100000 in
set_option maxHeartbeats 2000000 in
theorem of_flat (x : Raw) (hx : x.Ok) (w : World) (xlv : Value) (h7 : pickN x.k 7 < 5) :
    Calls Tryz.prog 5 #[.agg #[.int .i64 x.k, .int .i64 x.n, .string x.s, xlv]] w (OfPost w x) := by
  have hv : valOf x = (if 3 ≤ (valOne (pickN x.k 7) x.n x.s).k ∧ pickN (x.k.tdiv 7) 4 = 0 then flat (valOne (pickN x.k 7) x.n x.s).k (-1 - (pickN x.n 20 : Int)) (valOne (pickN x.k 7) x.n x.s).s else valOne (pickN x.k 7) x.n x.s) := by unfold valOf; rw [if_pos h7]
  have hP := pick_any x.k hx.o.k1 hx.o.k2 7 (by decide) (by decide)
  have h7z : (pickN x.k 7 : Int) < 5 := by omega
  have hv1 := fun W => valOne_any (pickN x.k 7) 0 x.n x.s hx.o.n1 hx.o.n2 hx.o.s W
  have hf := valOne_flat (pickN x.k 7) x.n x.s
  generalize valOne (pickN x.k 7) x.n x.s = z at *
  obtain ⟨zk, zn, zs, zl⟩ := z
  have hz : zl = [] := hf
  subst hz
  simp only [Vl.k, Vl.n, Vl.s] at hv1
  have hA : ¬ (3 ≤ zk ∧ pickN (x.k.tdiv 7) 4 = 0) → valOf x = .mk zk zn zs [] := fun h => by rw [hv]; exact if_neg h
  have hBv : 3 ≤ zk ∧ pickN (x.k.tdiv 7) 4 = 0 → valOf x = .mk zk (-1 - (pickN x.n 20 : Int)) zs [] := fun h => by rw [hv]; exact if_pos h
  have hd : -9223372036854775808 ≤ x.k.tdiv 7 ∧ x.k.tdiv 7 ≤ 9223372036854775807 := by
    have hk1 : -9223372036854775808 ≤ x.k := hx.o.k1; have hk2 : x.k ≤ 9223372036854775807 := hx.o.k2
    rcases Int.le_total 0 x.k with h | h
    · rw [Int.tdiv_eq_ediv_of_nonneg h]; omega
    · have h2 := Int.neg_tdiv (-x.k) 7
      rw [Int.neg_neg] at h2
      rw [h2, Int.tdiv_eq_ediv_of_nonneg (by omega)]; omega
  have ew : IntKind.i64.wrap (x.k.tdiv 7) = x.k.tdiv 7 := by rw [IntKind.wrap_i64]; omega
  have hP4 := pick_any (x.k.tdiv 7) hd.1 hd.2 4 (by decide) (by decide)
  have hP20 := pick_any x.n hx.o.n1 hx.o.n2 20 (by decide) (by decide)
  have h20 := pickN_lt x.n (n := 20) (by decide)
  generalize pickN x.k 7 = K at *
  generalize pickN x.n 20 = L at *
  have e20 : IntKind.i64.wrap (-1 - (L : Int)) = -1 - (L : Int) := by rw [IntKind.wrap_i64]; omega
  have HP := Lib.hid (And.intro hP (And.intro hv1 (And.intro hP4 hP20)))
  have HX0 := Lib.hid (And.intro hA hBv)
  have HB := Lib.hid (Kit.below_alloc2 w (.cells #[.int .i64 x.k, .int .i64 x.n, .string x.s, xlv] 24) (.cells #[.int .i64 0, .int .i64 0, .string ⟨#[]⟩, .slice none 0 0] 30))
  clear hx hv hP h7 hv1 hP4 hP20 hf hd h20 hA hBv
  by_cases h3 : zk < 3
  · have HX := Lib.hid (HX0.out.1 (by omega))
    go_enter Tryz.func5, Tryz.ntmps5
    go_wp2_with fail
    refine (HP.out.1 _).mono ?_; rintro e w' ⟨rfl, rfl⟩
    go_wp2_with fail
    refine (HP.out.2.1 _).mono ?_; rintro e Wc ⟨rfl, hBc⟩
    obtain ⟨hb4, hbf, hBw, hsz⟩ := of_two hBc
    obtain ⟨b0, b1, b2, b3⟩ := hb4.kept (.cells #[.int .i64 zk, .int .i64 zn, .string zs, .slice none 0 0] 30)
    obtain ⟨⟨y0, y1, y2, y3⟩, yf⟩ := hbf.alloc (.cells #[.int .i64 zk, .int .i64 zn, .string zs, .slice none 0 0] 30)
    have yf0 := yf 0
    have yf1 := yf 1
    have yf2 := yf 2
    have yf3 := yf 3
    have HW := Lib.hid (And.intro hBw hsz)
    have hne : Wc.heap.size ≠ w.heap.size + 1 := by omega
    have hne2 : Wc.heap.size ≠ w.heap.size := by omega
    have hne3 : w.heap.size + 1 ≠ Wc.heap.size := by omega
    have hne4 : w.heap.size ≠ Wc.heap.size := by omega
    clear hBc yf hBw hsz hb4 hbf
    go_wp2_with fail
    refine bodyPost_ret (v := aggV zk zn zs (.slice none 0 0)) (by simp [results, Tryz.results5, go_sem, y0, y1, y2, y3]) rfl ⟨⟨.slice none 0 0, by rw [HX.out]; rfl, by rw [HX.out]; exact .inl ⟨rfl, rfl⟩, fun j hj => by cases hj⟩, ?_⟩
    exact HW.out.1.trans (of_end _ _ _ _ _ _ (by have := HW.out.2; omega))
  · have h3' : 3 ≤ zk := by omega
    clear h3
    generalize pickN (x.k.tdiv 7) 4 = M at *
    by_cases hM : M = 0
    · subst hM
      have HX := Lib.hid (HX0.out.2 ⟨h3', rfl⟩)
      go_enter Tryz.func5, Tryz.ntmps5
      go_wp2_with fail
      refine (HP.out.1 _).mono ?_; rintro e w' ⟨rfl, rfl⟩
      go_wp2_with fail
      refine (HP.out.2.1 _).mono ?_; rintro e Wc ⟨rfl, hBc⟩
      obtain ⟨hb4, hbf, hBw, hsz⟩ := of_two hBc
      obtain ⟨b0, b1, b2, b3⟩ := hb4.kept (.cells #[.int .i64 zk, .int .i64 zn, .string zs, .slice none 0 0] 30)
      obtain ⟨⟨y0, y1, y2, y3⟩, yf⟩ := hbf.alloc (.cells #[.int .i64 zk, .int .i64 zn, .string zs, .slice none 0 0] 30)
      obtain ⟨⟨z0, z1, z2, z3⟩, zf⟩ := hbf.alloc (.cells #[.int .i64 zk, .int .i64 (-1 - (L : Int)), .string zs, .slice none 0 0] 30)
      have zf0 := zf 0
      have zf1 := zf 1
      have zf2 := zf 2
      have zf3 := zf 3
      have yf0 := yf 0
      have yf1 := yf 1
      have yf2 := yf 2
      have yf3 := yf 3
      have HW := Lib.hid (And.intro hBw hsz)
      have hne : Wc.heap.size ≠ w.heap.size + 1 := by omega
      have hne2 : Wc.heap.size ≠ w.heap.size := by omega
      have hne3 : w.heap.size + 1 ≠ Wc.heap.size := by omega
      have hne4 : w.heap.size ≠ Wc.heap.size := by omega
      clear hBc yf zf hBw hsz hb4 hbf
      go_wp2_with fail
      refine (HP.out.2.2.1 _).mono ?_; rintro e w' ⟨rfl, rfl⟩
      go_wp2_with fail
      refine (HP.out.2.2.2 _).mono ?_; rintro e w' ⟨rfl, rfl⟩
      go_wp2_with fail
      refine bodyPost_ret (v := aggV zk (-1 - (L : Int)) zs (.slice none 0 0)) (by simp [results, Tryz.results5, go_sem, z0, z1, z2, z3]) rfl ⟨⟨.slice none 0 0, by rw [HX.out]; rfl, by rw [HX.out]; exact .inl ⟨rfl, rfl⟩, fun j hj => by cases hj⟩, ?_⟩
      exact HW.out.1.trans (of_end _ _ _ _ _ _ (by have := HW.out.2; omega))
    · have HX := Lib.hid (HX0.out.1 (by omega))
      have hM0 : ((M : Int) == 0) = false := beq_eq_false_iff_ne.2 (by omega)
      go_enter Tryz.func5, Tryz.ntmps5
      go_wp2_with fail
      refine (HP.out.1 _).mono ?_; rintro e w' ⟨rfl, rfl⟩
      go_wp2_with fail
      refine (HP.out.2.1 _).mono ?_; rintro e Wc ⟨rfl, hBc⟩
      obtain ⟨hb4, hbf, hBw, hsz⟩ := of_two hBc
      obtain ⟨b0, b1, b2, b3⟩ := hb4.kept (.cells #[.int .i64 zk, .int .i64 zn, .string zs, .slice none 0 0] 30)
      obtain ⟨⟨y0, y1, y2, y3⟩, yf⟩ := hbf.alloc (.cells #[.int .i64 zk, .int .i64 zn, .string zs, .slice none 0 0] 30)
      have yf0 := yf 0
      have yf1 := yf 1
      have yf2 := yf 2
      have yf3 := yf 3
      have HW := Lib.hid (And.intro hBw hsz)
      have hne : Wc.heap.size ≠ w.heap.size + 1 := by omega
      have hne2 : Wc.heap.size ≠ w.heap.size := by omega
      have hne3 : w.heap.size + 1 ≠ Wc.heap.size := by omega
      have hne4 : w.heap.size ≠ Wc.heap.size := by omega
      clear hBc yf hBw hsz hb4 hbf
      go_wp2_with fail
      refine (HP.out.2.2.1 _).mono ?_; rintro e w' ⟨rfl, rfl⟩
      go_wp2_with fail
      refine bodyPost_ret (v := aggV zk zn zs (.slice none 0 0)) (by simp [results, Tryz.results5, go_sem, y0, y1, y2, y3]) rfl ⟨⟨.slice none 0 0, by rw [HX.out]; rfl, by rw [HX.out]; exact .inl ⟨rfl, rfl⟩, fun j hj => by cases hj⟩, ?_⟩
      exact HW.out.1.trans (of_end _ _ _ _ _ _ (by have := HW.out.2; omega))
theorem ValOf_any (x : Raw) (hx : x.Ok) (w : World) (xlv : Value) (hl : RawL w x.l xlv) :
    Calls Tryz.prog 5 #[.agg #[.int .i64 x.k, .int .i64 x.n, .string x.s, xlv]] w (OfPost w x) := by
  by_cases h : pickN x.k 7 < 5
  · exact of_flat x hx w xlv h
  · exact of_list x hx w xlv hl h
end Go.Proofs.YtbmhlpojgiminaaGreatDoor.Val
