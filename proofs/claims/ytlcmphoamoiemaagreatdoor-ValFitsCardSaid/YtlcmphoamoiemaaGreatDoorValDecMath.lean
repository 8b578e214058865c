/- Layer 3: Decode undoes Encode: plain mathematics. -/
import Derived.Test.YtlcmphoamoiemaaGreatDoorValDec
import Derived.Test.YtlcmphoamoiemaaGreatDoorValCmpMath
namespace Go.Proofs.YtlcmphoamoiemaaGreatDoor.Val
open Wire (numB readN bytesAt)

/-- What stands behind makes no difference to a number that was read. -/
theorem scan_more : ∀ (l t : List UInt8) (st : Nat × Nat) (r : Nat × Nat), Wire.scan l st = some r → Wire.scan (l ++ t) st = some r
  | [], _, _, _, h => by simp [Wire.scan] at h
  | b :: l, t, st, r, h => by
    rw [List.cons_append]
    unfold Wire.scan at h ⊢
    cases hs : Wire.stepN st (some b) with
    | inr o => rw [hs] at h; exact h
    | inl s1 => rw [hs] at h; exact scan_more l t s1 r h
theorem readN_more {l : List UInt8} {r : Int × Nat} (h : readN l = some r) (t : List UInt8) : readN (l ++ t) = some r := by
  unfold Wire.readN at h ⊢
  cases hs : Wire.scan l (0, 0) with
  | none => rw [hs] at h; cases h
  | some q => rw [scan_more l t _ _ hs]; rw [hs] at h; exact h
theorem add_list (s t : ByteArray) : (s ++ t).data.toList = s.data.toList ++ t.data.toList := by simp [ByteArray.data_append]
theorem add_size (s t : ByteArray) : (s ++ t).size = s.size + t.size := by rw [← data_len, add_list, List.length_append, data_len, data_len]
theorem bytesAt_more (s t : ByteArray) (a : Int) (h : bytesAt s a ≠ []) : ∃ u, bytesAt (s ++ t) a = bytesAt s a ++ u := by
  have hi := Wire.bytesAt_in h
  unfold Wire.bytesAt
  rw [if_pos hi.1, if_pos hi.1, add_list, List.drop_append]
  exact ⟨_, rfl⟩
theorem extract_list (s : ByteArray) (i j : Nat) : (s.extract i j).data.toList = (s.data.toList.drop i).take (j - i) := by
  simp [ByteArray.data_extract, Array.toList_extract, List.extract]
theorem bytes_ext {s t : ByteArray} (h : s.data.toList = t.data.toList) : s = t := by
  rw [← bs_data s, ← bs_data t, h]
theorem extract_more (s t : ByteArray) (i j : Nat) (hj : j ≤ s.size) : (s ++ t).extract i j = s.extract i j := by
  apply bytes_ext
  rw [extract_list, extract_list, add_list]
  rcases Nat.lt_or_ge i j with h | h
  · rw [List.drop_append_of_le_length (by rw [data_len]; omega), List.take_append_of_le_length (by rw [List.length_drop, data_len]; omega)]
  · rw [show j - i = 0 by omega]; simp

/-- Under an error nothing is read. -/
theorem rdI_stuck (s : ByteArray) (p : Int → Bool) (st : Int × Int) (h : st.2 ≠ 0) : rdI s p st = (0, st) := by unfold rdI; rw [if_pos h]
theorem rdT_stuck (s : ByteArray) (st : Int × Int) (h : st.2 ≠ 0) : rdT s st = (bs [], st) := by unfold rdT; rw [if_pos h]
theorem decF_stuck (s : ByteArray) (last : Int) (st : Int × Int) (h : st.2 ≠ 0) : (decF s last st).2 = st := by
  unfold decF
  rw [rdI_stuck s _ st h]
  simp
theorem decL_stuck (s : ByteArray) (st : Int × Int) (h : st.2 ≠ 0) : ∀ n, (decL s n st).2 = st
  | 0 => rfl
  | n + 1 => by
    have hn := decL_stuck s st h n
    rw [decL]
    show (decF s 4 (decL s n st).2).2 = st
    rw [hn]; exact decF_stuck s 4 st h
theorem stuck10 {st : Int × Int} (h : st.2 = 10) : st.2 ≠ 0 := by omega

/-- What is not cut off is read alike with more behind it. -/
theorem rdI_more (s t : ByteArray) (p : Int → Bool) (st : Int × Int) (h : (rdI s p st).2.2 ≠ 10) : rdI (s ++ t) p st = rdI s p st := by
  obtain ⟨a, e⟩ := st
  by_cases he : e = 0
  · subst he
    rw [rdI_0] at h
    rw [rdI_0, rdI_0]
    cases hr : readN (bytesAt s a) with
    | none => rw [hr] at h; exact absurd rfl h
    | some r =>
      obtain ⟨u, hu⟩ := bytesAt_more s t a (fun h0 => by rw [h0, Wire.readN_nil] at hr; cases hr)
      rw [hu, readN_more hr u]
  · rw [rdI_stuck _ _ _ he, rdI_stuck _ _ _ he]
theorem readT_more (s t : ByteArray) (a : Int) (r : ByteArray × Int) (h : Wire.readT s a = some r) : Wire.readT (s ++ t) a = some r := by
  unfold Wire.readT at h ⊢
  cases hr : readN (bytesAt s a) with
  | none => rw [hr] at h; cases h
  | some q =>
    have h0 : bytesAt s a ≠ [] := fun h0 => by rw [h0, Wire.readN_nil] at hr; cases hr
    obtain ⟨u, hu⟩ := bytesAt_more s t a h0
    have hi := Wire.bytesAt_in h0
    rw [hu, readN_more hr u]
    rw [hr] at h
    simp only at h ⊢
    split at h
    · rename_i hc
      rw [if_pos ⟨hc.1, hc.2.1, by rw [add_size]; omega⟩, extract_more _ _ _ _ (by omega)]
      exact h
    · cases h
theorem rdT_more (s t : ByteArray) (st : Int × Int) (h : (rdT s st).2.2 ≠ 10) : rdT (s ++ t) st = rdT s st := by
  obtain ⟨a, e⟩ := st
  by_cases he : e = 0
  · subst he
    rw [rdT_0] at h
    rw [rdT_0, rdT_0]
    cases hr : Wire.readT s a with
    | none => rw [hr] at h; exact absurd rfl h
    | some r => rw [readT_more s t a r hr]
  · rw [rdT_stuck _ _ he, rdT_stuck _ _ he]
theorem decF_more (s t : ByteArray) (last : Int) (st : Int × Int) (h : (decF s last st).2.2 ≠ 10) : decF (s ++ t) last st = decF s last st := by
  have hk : (rdI s (upTo last) st).2.2 ≠ 10 := by
    intro h10
    apply h
    unfold decF
    split
    · show (rdI s _ (rdI s (upTo last) st).2).2.2 = 10
      rw [rdI_stuck _ _ _ (stuck10 h10)]; exact h10
    · split
      · show (rdT s (rdI s (upTo last) st).2).2.2 = 10
        rw [rdT_stuck _ _ (stuck10 h10)]; exact h10
      · exact h10
  unfold decF at h ⊢
  rw [rdI_more s t _ _ hk]
  split
  · rename_i h1
    rw [if_pos h1] at h
    rw [rdI_more s t _ _ h]
  · rename_i h1
    rw [if_neg h1] at h
    split
    · rename_i h2
      rw [if_pos h2] at h
      rw [rdT_more s t _ h]
    · rfl
theorem decL_more (s t : ByteArray) (st : Int × Int) : ∀ n, (decL s n st).2.2 ≠ 10 → decL (s ++ t) n st = decL s n st
  | 0, _ => rfl
  | n + 1, h => by
    have hn : (decL s n st).2.2 ≠ 10 := by
      intro h10
      apply h
      rw [decL]
      show (decF s 4 (decL s n st).2).2.2 = 10
      rw [decF_stuck _ _ _ (stuck10 h10)]; exact h10
    have ih := decL_more s t st n hn
    rw [decL] at h
    rw [decL, decL, ih, decF_more s t _ _ h]
theorem decV_more (s t : ByteArray) (st : Int × Int) (h : (decV s st).2.2 ≠ 10) : decV (s ++ t) st = decV s st := by
  have hk : (rdI s (upTo 5) st).2.2 ≠ 10 := by
    intro h10
    apply h
    have h0 : st.2 ≠ 0 ∨ st.2 = 0 := by omega
    unfold decV
    split
    · show (decL s _ (rdI s rightC (rdI s (upTo 5) st).2).2).2.2 = 10
      rw [rdI_stuck _ _ _ (stuck10 h10), decL_stuck _ _ (stuck10 h10)]; exact h10
    · exact Classical.byContradiction fun hd => by
        have := decF_more s t 5 st hd
        unfold decF at hd
        split at hd
        · rw [show ((_ : Vl), (rdI s (rightN (rdI s (upTo 5) st).1) (rdI s (upTo 5) st).2).2).2.2 = 10 from by rw [rdI_stuck _ _ _ (stuck10 h10)]; exact h10] at hd; exact hd rfl
        · split at hd
          · rw [show ((_ : Vl), (rdT s (rdI s (upTo 5) st).2).2).2.2 = 10 from by rw [rdT_stuck _ _ (stuck10 h10)]; exact h10] at hd; exact hd rfl
          · exact hd h10
  unfold decV at h ⊢
  rw [rdI_more s t _ _ hk]
  split
  · rename_i h1
    rw [if_pos h1] at h
    have hc : (rdI s rightC (rdI s (upTo 5) st).2).2.2 ≠ 10 := by
      intro h10
      apply h
      show (decL s _ (rdI s rightC (rdI s (upTo 5) st).2).2).2.2 = 10
      rw [decL_stuck _ _ (stuck10 h10)]; exact h10
    rw [rdI_more s t _ _ hc, decL_more s t _ _ h]
  · rename_i h1
    rw [if_neg h1] at h
    exact decF_more s t _ _ h
end Go.Proofs.YtlcmphoamoiemaaGreatDoor.Val
