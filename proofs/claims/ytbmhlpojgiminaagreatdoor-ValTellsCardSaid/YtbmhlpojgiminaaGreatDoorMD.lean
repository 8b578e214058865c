/- Layer 3: Decode undoes Encode: plain mathematics. -/
import Derived.Test.YtbmhlpojgiminaaGreatDoorValDec
import Derived.Test.YtbmhlpojgiminaaGreatDoorMC
import Derived.Test.YtbmhlpojgiminaaGreatDoorMK
import Derived.Deep.Cut
import Derived.Outline
namespace Go.Proofs.YtbmhlpojgiminaaGreatDoor.Val
open Wire (numB readN bytesAt)

/-- What stands behind makes no difference to a number that was read. -/
theorem scan_more : ∀ (l t : List UInt8) (st : Nat × Nat) (r : Nat × Nat), Wire.scan l st = some r → Wire.scan (l ++ t) st = some r
  | [], _, _, _, h => by simp [Wire.scan] at h
  | b :: l, t, st, r, h => by
    rw [List.cons_append]
    unfold Wire.scan at h ⊢
    cases hs : Wire.stepN st (some b) with
    | inr o => rw [hs] at h; exact h
    | inl s1 => rw [hs] at h; exact scan_more l t s1 r h
theorem readN_more {l : List UInt8} {r : Int × Nat} (h : readN l = some r) (t : List UInt8) : readN (l ++ t) = some r := by
  unfold Wire.readN at h ⊢
  cases hs : Wire.scan l (0, 0) with
  | none => rw [hs] at h; cases h
  | some q => rw [scan_more l t _ _ hs]; rw [hs] at h; exact h
theorem add_list (s t : ByteArray) : (s ++ t).data.toList = s.data.toList ++ t.data.toList := by simp [ByteArray.data_append]
theorem add_size (s t : ByteArray) : (s ++ t).size = s.size + t.size := by rw [← data_len, add_list, List.length_append, data_len, data_len]
theorem bytesAt_more (s t : ByteArray) (a : Int) (h : bytesAt s a ≠ []) : ∃ u, bytesAt (s ++ t) a = bytesAt s a ++ u := by
  have hi := Wire.bytesAt_in h
  unfold Wire.bytesAt
  rw [if_pos hi.1, if_pos hi.1, add_list, List.drop_append]
  exact ⟨_, rfl⟩
theorem extract_list (s : ByteArray) (i j : Nat) : (s.extract i j).data.toList = (s.data.toList.drop i).take (j - i) := by
  simp [ByteArray.data_extract, Array.toList_extract, List.extract]
theorem bytes_ext {s t : ByteArray} (h : s.data.toList = t.data.toList) : s = t := by
  rw [← bs_data s, ← bs_data t, h]
theorem extract_more (s t : ByteArray) (i j : Nat) (hj : j ≤ s.size) : (s ++ t).extract i j = s.extract i j := by
  apply bytes_ext
  rw [extract_list, extract_list, add_list]
  rcases Nat.lt_or_ge i j with h | h
  · rw [List.drop_append_of_le_length (by rw [data_len]; omega), List.take_append_of_le_length (by rw [List.length_drop, data_len]; omega)]
  · rw [show j - i = 0 by omega]; simp

/-- Under an error nothing is read. -/
theorem rdI_stuck (s : ByteArray) (p : Int → Bool) (st : Int × Int) (h : st.2 ≠ 0) : rdI s p st = (0, st) := by unfold rdI; rw [if_pos h]
theorem rdT_stuck (s : ByteArray) (st : Int × Int) (h : st.2 ≠ 0) : rdT s st = (bs [], st) := by unfold rdT; rw [if_pos h]
theorem decF_stuck (s : ByteArray) (last : Int) (st : Int × Int) (h : st.2 ≠ 0) : (decF s last st).2 = st := by
  unfold decF
  rw [rdI_stuck s _ st h]
  simp
theorem decL_stuck (s : ByteArray) (st : Int × Int) (h : st.2 ≠ 0) : ∀ n, (decL s n st).2 = st
  | 0 => rfl
  | n + 1 => by
    have hn := decL_stuck s st h n
    rw [decL]
    show (decF s 4 (decL s n st).2).2 = st
    rw [hn]; exact decF_stuck s 4 st h
theorem stuck10 {st : Int × Int} (h : st.2 = 10) : st.2 ≠ 0 := by omega

/-- What is not cut off is read alike with more behind it. -/
theorem rdI_more (s t : ByteArray) (p : Int → Bool) (st : Int × Int) (h : (rdI s p st).2.2 ≠ 10) : rdI (s ++ t) p st = rdI s p st := by
  obtain ⟨a, e⟩ := st
  by_cases he : e = 0
  · subst he
    rw [rdI_0] at h
    rw [rdI_0, rdI_0]
    cases hr : readN (bytesAt s a) with
    | none => rw [hr] at h; exact absurd rfl h
    | some r =>
      obtain ⟨u, hu⟩ := bytesAt_more s t a (fun h0 => by rw [h0, Wire.readN_nil] at hr; cases hr)
      rw [hu, readN_more hr u]
  · rw [rdI_stuck _ _ _ he, rdI_stuck _ _ _ he]
theorem readT_more (s t : ByteArray) (a : Int) (r : ByteArray × Int) (h : Wire.readT s a = some r) : Wire.readT (s ++ t) a = some r := by
  unfold Wire.readT at h ⊢
  cases hr : readN (bytesAt s a) with
  | none => rw [hr] at h; cases h
  | some q =>
    have h0 : bytesAt s a ≠ [] := fun h0 => by rw [h0, Wire.readN_nil] at hr; cases hr
    obtain ⟨u, hu⟩ := bytesAt_more s t a h0
    have hi := Wire.bytesAt_in h0
    rw [hu, readN_more hr u]
    rw [hr] at h
    simp only at h ⊢
    split at h
    · rename_i hc
      rw [if_pos ⟨hc.1, hc.2.1, by rw [add_size]; omega⟩, extract_more _ _ _ _ (by omega)]
      exact h
    · cases h
theorem rdT_more (s t : ByteArray) (st : Int × Int) (h : (rdT s st).2.2 ≠ 10) : rdT (s ++ t) st = rdT s st := by
  obtain ⟨a, e⟩ := st
  by_cases he : e = 0
  · subst he
    rw [rdT_0] at h
    rw [rdT_0, rdT_0]
    cases hr : Wire.readT s a with
    | none => rw [hr] at h; exact absurd rfl h
    | some r => rw [readT_more s t a r hr]
  · rw [rdT_stuck _ _ he, rdT_stuck _ _ he]
theorem decF_more (s t : ByteArray) (last : Int) (st : Int × Int) (h : (decF s last st).2.2 ≠ 10) : decF (s ++ t) last st = decF s last st := by
  have hk : (rdI s (upTo last) st).2.2 ≠ 10 := by
    intro h10
    apply h
    unfold decF
    split
    · show (rdI s _ (rdI s (upTo last) st).2).2.2 = 10
      rw [rdI_stuck _ _ _ (stuck10 h10)]; exact h10
    · split
      · show (rdT s (rdI s (upTo last) st).2).2.2 = 10
        rw [rdT_stuck _ _ (stuck10 h10)]; exact h10
      · exact h10
  unfold decF at h ⊢
  rw [rdI_more s t _ _ hk]
  split
  · rename_i h1
    rw [if_pos h1] at h
    rw [rdI_more s t _ _ h]
  · rename_i h1
    rw [if_neg h1] at h
    split
    · rename_i h2
      rw [if_pos h2] at h
      rw [rdT_more s t _ h]
    · rfl
theorem decL_more (s t : ByteArray) (st : Int × Int) : ∀ n, (decL s n st).2.2 ≠ 10 → decL (s ++ t) n st = decL s n st
  | 0, _ => rfl
  | n + 1, h => by
    have hn : (decL s n st).2.2 ≠ 10 := by
      intro h10
      apply h
      rw [decL]
      show (decF s 4 (decL s n st).2).2.2 = 10
      rw [decF_stuck _ _ _ (stuck10 h10)]; exact h10
    have ih := decL_more s t st n hn
    rw [decL] at h
    rw [decL, decL, ih, decF_more s t _ _ h]
theorem decV_more (s t : ByteArray) (st : Int × Int) (h : (decV s st).2.2 ≠ 10) : decV (s ++ t) st = decV s st := by
  have hk : (rdI s (upTo 5) st).2.2 ≠ 10 := by
    intro h10
    apply h
    have h0 : st.2 ≠ 0 ∨ st.2 = 0 := by omega
    unfold decV
    split
    · show (decL s _ (rdI s rightC (rdI s (upTo 5) st).2).2).2.2 = 10
      rw [rdI_stuck _ _ _ (stuck10 h10), decL_stuck _ _ (stuck10 h10)]; exact h10
    · exact Classical.byContradiction fun hd => by
        have := decF_more s t 5 st hd
        unfold decF at hd
        split at hd
        · rw [show ((_ : Vl), (rdI s (rightN (rdI s (upTo 5) st).1) (rdI s (upTo 5) st).2).2).2.2 = 10 from by rw [rdI_stuck _ _ _ (stuck10 h10)]; exact h10] at hd; exact hd rfl
        · split at hd
          · rw [show ((_ : Vl), (rdT s (rdI s (upTo 5) st).2).2).2.2 = 10 from by rw [rdT_stuck _ _ (stuck10 h10)]; exact h10] at hd; exact hd rfl
          · exact hd h10
  unfold decV at h ⊢
  rw [rdI_more s t _ _ hk]
  split
  · rename_i h1
    rw [if_pos h1] at h
    have hc : (rdI s rightC (rdI s (upTo 5) st).2).2.2 ≠ 10 := by
      intro h10
      apply h
      show (decL s _ (rdI s rightC (rdI s (upTo 5) st).2).2).2.2 = 10
      rw [decL_stuck _ _ (stuck10 h10)]; exact h10
    rw [rdI_more s t _ _ hc, decL_more s t _ _ h]
  · rename_i h1
    rw [if_neg h1] at h
    exact decF_more s t _ _ h
end Go.Proofs.YtbmhlpojgiminaaGreatDoor.Val
/- Layer 3: Decode undoes Encode: a value's bytes are read. -/
namespace Go.Proofs.YtbmhlpojgiminaaGreatDoor.Val
open Wire (numB readN bytesAt)

theorem bytesAt_step {s : ByteArray} {a : Int} {u t : List UInt8} (h : bytesAt s a = u ++ t) (h0 : 0 ≤ a) : bytesAt s (a + (u.length : Int)) = t := by
  unfold Wire.bytesAt at h ⊢
  rw [if_pos h0] at h
  rw [if_pos (by omega), show (a + (u.length : Int)).toNat = a.toNat + u.length by omega, ← List.drop_drop, h, List.drop_left']
  rfl
theorem numB_ne (n : Int) : numB n ≠ [] := fun h => by
  have := Wire.grp_pos 9 (Wire.foldN n)
  rw [← Wire.numB_length, h] at this
  cases this
theorem bytesAt_num {s : ByteArray} {a n : Int} {t : List UInt8} (h : bytesAt s a = numB n ++ t) : 0 ≤ a :=
  (Wire.bytesAt_in (fun h0 => numB_ne n (List.append_eq_nil_iff.1 (h.symm.trans h0)).1)).1
theorem rdI_full {s : ByteArray} {a n : Int} {t : List UInt8} (h : bytesAt s a = numB n ++ t) (h1 : -9223372036854775808 ≤ n) (h2 : n ≤ 9223372036854775807) (p : Int → Bool) (hp : p n = true) : rdI s p (a, 0) = (n, a + ((numB n).length : Int), 0) := by
  rw [rdI_0, h, Wire.readN_numB n h1 h2 t]
  simp only [hp, if_true]
theorem rdT_full {s x : ByteArray} {a : Int} {t : List UInt8} (h : bytesAt s a = numB (x.size : Int) ++ x.data.toList ++ t) (hx : rightT x = true) : rdT s (a, 0) = (x, a + ((numB (x.size : Int)).length : Int) + (x.size : Int), 0) := by
  have hs : x.size ≤ 60 := by
    unfold rightT at hx
    simp only [Bool.and_eq_true, decide_eq_true_eq] at hx
    exact hx.1.1
  have h' : bytesAt s a = numB (x.size : Int) ++ (x.data.toList ++ t) := by rw [h, List.append_assoc]
  have h0 := bytesAt_num h'
  have hd : s.data.toList.drop a.toNat = numB (x.size : Int) ++ (x.data.toList ++ t) := by rw [← h']; unfold Wire.bytesAt; rw [if_pos h0]
  have hl := congrArg List.length hd
  rw [List.length_drop, data_len, List.length_append, List.length_append, data_len] at hl
  have hnp : 0 < (numB (x.size : Int)).length := List.length_pos_iff.2 (numB_ne _)
  have he : s.extract (a.toNat + (numB (x.size : Int)).length) (a.toNat + (numB (x.size : Int)).length + (x.size : Int).toNat) = x := by
    apply bytes_ext
    rw [extract_list, ← List.drop_drop, hd, List.drop_left' rfl, show a.toNat + (numB (x.size : Int)).length + (x.size : Int).toNat - (a.toNat + (numB (x.size : Int)).length) = x.data.toList.length by rw [data_len]; omega, List.take_left' rfl]
  rw [rdT_0]
  unfold Wire.readT
  rw [h', Wire.readN_numB _ (by omega) (by omega)]
  simp only
  rw [if_pos ⟨by omega, by omega, by omega⟩, he]
  simp only [hx, if_true]

theorem rightN_cases {k n : Int} (h : rightN k n = true) : (k = 0 ∧ n = 0) ∨ ((k = 1 ∨ k = 3 ∨ k = 4) ∧ -1000000000000000 ≤ n ∧ n ≤ 1000000000000000) := by
  unfold rightN at h
  split at h
  · left; exact ⟨by assumption, by simpa using h⟩
  · split at h
    · rename_i h1; right
      simp only [Bool.and_eq_true, decide_eq_true_eq] at h
      exact ⟨.inl h1, h⟩
    · split at h
      · rename_i h1; right
        simp only [Bool.or_eq_true, Bool.and_eq_true, decide_eq_true_eq] at h
        exact ⟨.inr h1, by omega⟩
      · cases h
theorem list_empty {s : ByteArray} (h : s.data.toList.isEmpty = true) : s = bs [] := by
  rw [List.isEmpty_iff] at h
  rw [← bs_data s, h]
/-- A right value that is no list: what it is. -/
theorem rightF_cases {x : Vl} (h : rightF x = true) : (x = flat 0 0 (bs [])) ∨ (∃ k n, x = flat k n (bs []) ∧ (k = 1 ∨ k = 3 ∨ k = 4) ∧ rightN k n = true ∧ -1000000000000000 ≤ n ∧ n ≤ 1000000000000000) ∨ (∃ s, x = flat 2 0 s ∧ rightT s = true) := by
  obtain ⟨k, n, s, l⟩ := x
  unfold rightF at h
  by_cases h2 : k = 2
  · rw [if_pos (show (Vl.mk k n s l).k = 2 from h2)] at h
    simp only [Vl.n, Vl.s, Vl.l, Bool.and_eq_true, beq_iff_eq, List.isEmpty_iff] at h
    right; right
    exact ⟨s, by rw [h2, h.1.2, h.2], h.1.1⟩
  · rw [if_neg (show ¬ (Vl.mk k n s l).k = 2 from h2)] at h
    simp only [Vl.k, Vl.n, Vl.s, Vl.l, Bool.and_eq_true] at h
    have hs := list_empty h.1.2
    have hl := List.isEmpty_iff.1 h.2
    rcases rightN_cases h.1.1 with ⟨rfl, rfl⟩ | ⟨hk, hn⟩
    · left; rw [hs, hl]
    · right; left
      exact ⟨k, n, by rw [hs, hl], hk, h.1.1, hn⟩

theorem decF_full {s : ByteArray} {x : Vl} {a last : Int} {t : List UInt8} (hx : rightF x = true) (hl : 4 ≤ last) (h : bytesAt s a = encF x ++ t) : decF s last (a, 0) = (x, a + ((encF x).length : Int), 0) := by
  have hup : ∀ k : Int, 0 ≤ k → k ≤ 4 → upTo last k = true := fun k h1 h2 => by unfold upTo; rw [decide_eq_true h1, decide_eq_true (by omega)]; rfl
  rcases rightF_cases hx with rfl | ⟨k, n, rfl, hk, hr, hn1, hn2⟩ | ⟨u, rfl, hu⟩
  · have he : encF (flat 0 0 (bs [])) = numB 0 := rfl
    rw [he] at h ⊢
    unfold decF
    rw [rdI_full h (by omega) (by omega) _ (hup 0 (by omega) (by omega))]
    rfl
  · have he : encF (flat k n (bs [])) = numB k ++ numB n := by
      unfold encF
      exact if_pos hk
    rw [he] at h ⊢
    rw [List.append_assoc] at h
    have h0 := bytesAt_num h
    have hstep := bytesAt_step h h0
    unfold decF
    rw [rdI_full h (by omega) (by omega) _ (hup k (by omega) (by omega))]
    simp only
    rw [if_pos hk, rdI_full hstep (by omega) (by omega) _ hr]
    simp only [List.length_append, Prod.mk.injEq, and_true, true_and]
    push_cast; omega
  · have he : encF (flat 2 0 u) = numB 2 ++ (numB (u.size : Int) ++ u.data.toList) := rfl
    rw [he] at h ⊢
    rw [List.append_assoc] at h
    have h0 := bytesAt_num h
    have hstep := bytesAt_step h h0
    unfold decF
    rw [rdI_full h (by omega) (by omega) _ (hup 2 (by omega) (by omega))]
    simp only
    rw [if_neg (by decide), if_pos trivial, rdT_full hstep hu]
    simp only [List.length_append, Prod.mk.injEq, and_true, true_and, data_len]
    push_cast; omega

theorem encF_ne (x : Vl) : encF x ≠ [] := by
  unfold encF
  split
  · exact fun h => numB_ne _ (List.append_eq_nil_iff.1 h).1
  · split
    · exact fun h => numB_ne _ (List.append_eq_nil_iff.1 h).1
    · exact numB_ne _

theorem decL_full {s : ByteArray} {l : List Vl} {a : Int} {t : List UInt8} (hl : ∀ x ∈ l, rightF x = true) (h0 : 0 ≤ a) (h : bytesAt s a = l.flatMap encF ++ t) : ∀ n, n ≤ l.length → decL s n (a, 0) = (l.take n, a + (((l.take n).flatMap encF).length : Int), 0)
  | 0, _ => by rw [decL]; simp
  | n + 1, hn => by
    have ih := decL_full hl h0 h n (by omega)
    have hy : l.take (n + 1) = l.take n ++ [l[n]] := List.take_succ_eq_append_getElem (by omega)
    have hsp : l.flatMap encF = (l.take n).flatMap encF ++ (encF l[n] ++ (l.drop (n + 1)).flatMap encF) := by
      conv => lhs; rw [← List.take_append_drop n l, List.drop_eq_getElem_cons (by omega : n < l.length)]
      rw [List.flatMap_append, List.flatMap_cons]
    have hb : bytesAt s a = (l.take n).flatMap encF ++ (encF l[n] ++ ((l.drop (n + 1)).flatMap encF ++ t)) := by rw [h, hsp]; simp only [List.append_assoc]
    have hstep := bytesAt_step hb h0
    rw [decL, ih]
    rw [decF_full (hl _ (List.getElem_mem _)) (Int.le_refl 4) hstep, hy, List.flatMap_append]
    simp only [List.length_append, Prod.mk.injEq, and_true, true_and, List.flatMap_cons, List.flatMap_nil, List.append_nil]
    push_cast; omega

theorem rightV_list {x : Vl} (h : rightV x = true) (h5 : x.k = 5) : x = .mk 5 0 (bs []) x.l ∧ x.l.length ≤ 12 ∧ ∀ y ∈ x.l, rightF y = true := by
  unfold rightV at h
  rw [if_pos h5] at h
  simp only [Bool.and_eq_true, decide_eq_true_eq, beq_iff_eq, Bool.not_eq_true', List.any_eq_false] at h
  obtain ⟨k, n, s, l⟩ := x
  simp only [Vl.k, Vl.n, Vl.s, Vl.l] at h h5 ⊢
  refine ⟨by rw [h5, h.1.1.2, list_empty h.1.2], h.1.1.1, fun y hy => ?_⟩
  have hw := h.2 y hy
  unfold wrongIn at hw
  simp only [Bool.or_eq_true, beq_iff_eq, Bool.not_eq_true', not_or, Bool.not_eq_false] at hw
  exact hw.2
theorem decV_full {s : ByteArray} {x : Vl} {a : Int} {t : List UInt8} (hx : rightV x = true) (h : bytesAt s a = encV x ++ t) : decV s (a, 0) = (x, a + ((encV x).length : Int), 0) := by
  by_cases h5 : x.k = 5
  · obtain ⟨hm, h12, hl⟩ := rightV_list hx h5
    have he : encV x = numB 5 ++ (numB (x.l.length : Int) ++ x.l.flatMap encF) := by unfold encV; rw [if_pos h5, h5, List.append_assoc]
    rw [he] at h ⊢
    have h' : bytesAt s a = numB 5 ++ (numB (x.l.length : Int) ++ (x.l.flatMap encF ++ t)) := by rw [h]; simp only [List.append_assoc]
    have h0 := bytesAt_num h'
    have s1 := bytesAt_step h' h0
    have h1 := bytesAt_num s1
    have s2 := bytesAt_step s1 h1
    unfold decV
    rw [rdI_full h' (by omega) (by omega) _ (by decide)]
    simp only [if_true]
    rw [rdI_full s1 (by omega) (by omega) _ (by unfold rightC; rw [decide_eq_true (by omega), decide_eq_true (by omega)]; rfl)]
    simp only [Int.toNat_natCast]
    rw [decL_full hl (by omega) s2 x.l.length (Nat.le_refl _), List.take_length]
    conv => rhs; rw [hm]
    simp only [Vl.l, List.length_append, Prod.mk.injEq, and_true, true_and]
    push_cast; omega
  · have hF : rightF x = true := by unfold rightV at hx; rw [if_neg h5] at hx; exact hx
    have he : encV x = encF x := by unfold encV; rw [if_neg h5]
    rw [he] at h ⊢
    have hk : (rdI s (upTo 5) (a, 0)).1 ≠ 5 := by
      have := decF_full hF (by decide : (4 : Int) ≤ 5) h
      intro hk
      unfold decF at this
      rw [hk] at this
      rw [if_neg (by decide), if_neg (by decide)] at this
      exact h5 (by rw [← (Prod.mk.inj this).1]; rfl)
    unfold decV
    rw [if_neg hk]
    exact decF_full hF (by decide) h

/-- What is read lies in the text. -/
def InR (s : ByteArray) (st : Int × Int) : Prop := 0 ≤ st.1 ∧ st.1 ≤ s.size
theorem rdI_inR {s : ByteArray} {p : Int → Bool} {st : Int × Int} (h : InR s st) : InR s (rdI s p st).2 := by
  obtain ⟨a, e⟩ := st
  by_cases he : e = 0
  · subst he
    rw [rdI_0]
    cases hr : readN (bytesAt s a) with
    | none => exact ⟨Int.le_refl _, Int.natCast_nonneg _⟩
    | some r =>
      simp only
      split
      · exact bytesAt_len hr h.1 h.2
      · exact ⟨Int.le_refl _, Int.natCast_nonneg _⟩
  · rw [rdI_stuck _ _ _ he]; exact h
theorem rdT_inR {s : ByteArray} {st : Int × Int} (h : InR s st) : InR s (rdT s st).2 := by
  obtain ⟨a, e⟩ := st
  by_cases he : e = 0
  · subst he
    rw [rdT_0]
    cases hr : Wire.readT s a with
    | none => exact ⟨Int.le_refl _, Int.natCast_nonneg _⟩
    | some r =>
      simp only
      split
      · unfold Wire.readT at hr
        cases hn : readN (bytesAt s a) with
        | none => rw [hn] at hr; cases hr
        | some q =>
          rw [hn] at hr
          simp only at hr
          split at hr
          · cases hr
            have := h.1
            exact ⟨by simp only at *; omega, by simp only at *; omega⟩
          · cases hr
      · exact ⟨Int.le_refl _, Int.natCast_nonneg _⟩
  · rw [rdT_stuck _ _ he]; exact h
theorem decF_in {s : ByteArray} {last : Int} {st : Int × Int} (h : InR s st) : InR s (decF s last st).2 := by
  unfold decF
  split
  · exact rdI_inR (rdI_inR h)
  · split
    · exact rdT_inR (rdI_inR h)
    · exact rdI_inR h
theorem decL_in {s : ByteArray} {st : Int × Int} (h : InR s st) : ∀ n, InR s (decL s n st).2
  | 0 => h
  | n + 1 => by rw [decL]; exact decF_in (decL_in h n)
theorem decV_in {s : ByteArray} {st : Int × Int} (h : InR s st) : InR s (decV s st).2 := by
  unfold decV
  split
  · exact decL_in (rdI_inR (rdI_inR h)) _
  · exact decF_in h

theorem bytesAt_0 (s : ByteArray) : bytesAt s 0 = s.data.toList := by unfold Wire.bytesAt; rw [if_pos (Int.le_refl _)]; rfl
theorem bytesAt_at (a b : List UInt8) : bytesAt (bs (a ++ b)) (a.length : Int) = b := by
  unfold Wire.bytesAt
  rw [if_pos (Int.natCast_nonneg _), bs_list]
  simp
/-- Decode undoes Encode, wherever the bytes stand. -/
theorem decR_full (h b : List UInt8) (x : Vl) (hx : rightV x = true) : decR (bs (h ++ (encV x ++ b))) (h.length : Int) = .inr (x, (h.length : Int) + ((encV x).length : Int)) := by
  have hd := decV_full (s := bs (h ++ (encV x ++ b))) (t := b) hx (bytesAt_at h _)
  unfold decR
  rw [if_pos ⟨Int.natCast_nonneg _, by rw [bs_size, List.length_append]; push_cast; omega⟩, hd]
  rfl
/-- None's bytes begin another one's. -/
theorem encV_begins {x y : Vl} (hx : rightV x = true) (hy : rightV y = true) {t : List UInt8} (h : encV y = encV x ++ t) : x = y := by
  have h1 := decR_full [] t x hx
  have h2 := decR_full [] [] y hy
  simp only [List.nil_append, List.append_nil] at h1 h2
  rw [h] at h2
  rw [h1] at h2
  injection h2 with h3
  exact (Prod.mk.inj h3).1
/-- Bytes that are cut off are none. -/
theorem decR_cut {x : Vl} (hx : rightV x = true) (k : Nat) (hk : k < (encV x).length) : decR (bs ((encV x).take k)) 0 = .inl 10 := by
  have hin := decV_in (s := bs ((encV x).take k)) (st := ((0 : Int), (0 : Int))) ⟨Int.le_refl _, Int.natCast_nonneg _⟩
  have h10 : (decV (bs ((encV x).take k)) ((0 : Int), (0 : Int))).2.2 = 10 := by
    refine Classical.byContradiction fun hne => ?_
    have hm := decV_more _ (bs ((encV x).drop k)) _ hne
    rw [bs_append, List.take_append_drop] at hm
    have hd := decV_full (s := bs (encV x)) (a := 0) (t := []) hx (by rw [bytesAt_0, bs_list, List.append_nil])
    rw [hd] at hm
    have h2 := hin.2
    rw [← hm, bs_size, List.length_take] at h2
    simp only at h2
    omega
  unfold decR
  rw [if_pos ⟨Int.le_refl _, Int.natCast_nonneg _⟩, if_pos (by rw [h10]; decide), h10]
theorem encV_ne (x : Vl) : encV x ≠ [] := by
  unfold encV
  split
  · exact fun h => numB_ne _ (List.append_eq_nil_iff.1 (List.append_eq_nil_iff.1 h).1).1
  · exact encF_ne x
theorem rightF_size {x : Vl} (h : rightF x = true) : x.s.size ≤ 60 := by
  rcases rightF_cases h with rfl | ⟨k, n, rfl, _⟩ | ⟨u, rfl, hu⟩
  · decide
  · show (bs []).size ≤ 60; decide
  · unfold rightT at hu
    simp only [Bool.and_eq_true, decide_eq_true_eq] at hu
    exact hu.1.1
theorem encFs_lenR : ∀ l : List Vl, (∀ y ∈ l, rightF y = true) → (l.flatMap encF).length ≤ l.length * 10020
  | [], _ => Nat.le_refl _
  | x :: r, h => by
    have h1 := encF_len x (by have := rightF_size (h x (by simp)); omega)
    have h2 := encFs_lenR r (fun y hy => h y (by simp [hy]))
    rw [List.flatMap_cons, List.length_append, List.length_cons]; omega
theorem encV_len {x : Vl} (hx : rightV x = true) : (encV x).length ≤ 200000 := by
  by_cases h5 : x.k = 5
  · obtain ⟨_, h12, hl⟩ := rightV_list hx h5
    have h1 := encFs_lenR x.l hl
    have h2 := Wire.numB_len x.k
    have h3 := Wire.numB_len (x.l.length : Int)
    unfold encV
    rw [if_pos h5, List.length_append, List.length_append]; omega
  · have hF : rightF x = true := by unfold rightV at hx; rw [if_neg h5] at hx; exact hx
    have := encF_len x (by have := rightF_size hF; omega)
    unfold encV
    rw [if_neg h5]; omega
end Go.Proofs.YtbmhlpojgiminaaGreatDoor.Val
/- The document's own answer for values: which are right. -/
namespace Go.Proofs.YtbmhlpojgiminaaGreatDoor.Val
open Go.RowKit
open Kit (ret_int ret_bool)

attribute [local go_sem] Oper.semAt_some

theorem okT_of (s : ByteArray) : ∀ (n pos f : Nat), (s.data.toList.drop pos).length ≤ n → (s.data.toList.drop pos).length ≤ f → Lib.validD (s.data.toList.drop pos) = true → Lib.idxFuncFrom ctl true s f pos = -1 → ∃ cs, OkT (s.data.toList.drop pos) cs
  | 0, pos, _, h, _, _, _ => by
    have : s.data.toList.drop pos = [] := List.eq_nil_of_length_eq_zero (by omega)
    rw [this]
    exact ⟨[], .nil⟩
  | n + 1, pos, f, h, hf, hv, hi => by
    by_cases hl : s.data.toList.drop pos = []
    · rw [hl]; exact ⟨[], .nil⟩
    · have hpos : 0 < (s.data.toList.drop pos).length := List.length_pos_iff.2 hl
      obtain ⟨c, k, hd⟩ : ∃ c k, Lib.decodeL (s.data.toList.drop pos) = (c, k) := ⟨_, _, rfl⟩
      rw [Lib.validD_step _ hl, hd] at hv
      by_cases hok : c = 65533 ∧ k = 1
      · rw [if_pos hok] at hv; cases hv
      · rw [if_neg hok, List.drop_drop] at hv
        obtain ⟨g, rfl⟩ : ∃ g, f = g + 1 := ⟨f - 1, by omega⟩
        have hsz : pos < s.size := by rw [List.length_drop, data_len] at hpos; omega
        have hdec : Utf8.decode s pos = (c, k) := by rw [← Lib.decodeL_drop, hd]
        rw [Lib.idxFuncFrom, if_pos hsz, hdec] at hi
        have hc : ctl c = false := by
          cases hc : ctl c
          · rfl
          · rw [if_pos hc] at hi; omega
        rw [if_neg (by rw [hc]; simp)] at hi
        obtain ⟨hr, hk⟩ := rune_take hd hok hl hc
        have hkp := hr.pos
        rw [List.length_take] at hkp
        have hlk : (s.data.toList.drop (pos + k)).length + k ≤ (s.data.toList.drop pos).length := by rw [List.length_drop, List.length_drop] at *; omega
        obtain ⟨cs, h2⟩ := okT_of s n (pos + k) g (by omega) (by omega) hv hi
        refine ⟨c :: cs, ?_⟩
        rw [← List.take_append_drop k (s.data.toList.drop pos), List.drop_drop]
        exact .cons hr h2
theorem isText_rightT (s : ByteArray) : (isTextB s && decide (s.size ≤ 60)) = rightT s := by
  unfold rightT
  by_cases hs : s.size ≤ 60
  · rw [decide_eq_true hs, Bool.and_true, Bool.true_and]
    cases h : isTextB s
    · symm
      rw [Bool.eq_false_iff]
      intro h2
      rw [Bool.and_eq_true, Bool.not_eq_true'] at h2
      have hi : Lib.idxFuncFrom ctl true s s.size 0 = -1 := by
        have h3 := h2.2
        unfold hasCtl Lib.idxFunc at h3
        rw [decide_eq_false_iff_not] at h3
        rcases Lib.idxFuncFrom_range ctl true s s.size 0 with h | h
        · exact h
        · omega
      obtain ⟨cs, h4⟩ := okT_of s s.size 0 s.size (by rw [List.drop_zero, data_len]; exact Nat.le_refl _) (by rw [List.drop_zero, data_len]; exact Nat.le_refl _) (by rw [List.drop_zero]; exact h2.1) hi
      rw [(isTextB_ok s).2 ⟨cs, by simpa using h4⟩] at h
      cases h
    · obtain ⟨cs, h2⟩ := (isTextB_ok s).1 h
      have h3 := h2.noCtl
      rw [bs_data] at h3
      rw [h2.valid, h3]; rfl
  · rw [decide_eq_false hs, Bool.and_false, Bool.false_and, Bool.false_and]
end Go.Proofs.YtbmhlpojgiminaaGreatDoor.Val
