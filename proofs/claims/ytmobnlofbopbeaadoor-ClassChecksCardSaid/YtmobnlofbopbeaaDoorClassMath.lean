/- Layer 4: Decode undoes Encode: plain mathematics. -/
import Derived.Test.YtmobnlofbopbeaaDoorClassEnc2
import Derived.Test.YtmobnlofbopbeaaDoorClassDec
namespace Go.Proofs.YtmobnlofbopbeaaDoor.Cls
open Val (bs bs_size bs_list bs_data bs_append data_len)
open Wire (numB readN readT bytesAt)

theorem scan_more : ∀ (l t : List UInt8) (st : Nat × Nat) (r : Nat × Nat), Wire.scan l st = some r → Wire.scan (l ++ t) st = some r
  | [], _, _, _, h => by simp [Wire.scan] at h
  | b :: l, t, st, r, h => by
    rw [List.cons_append]
    unfold Wire.scan at h ⊢
    cases hs : Wire.stepN st (some b) with
    | inr o => rw [hs] at h; exact h
    | inl s1 => rw [hs] at h; exact scan_more l t s1 r h
theorem readN_more {l : List UInt8} {r : Int × Nat} (h : readN l = some r) (t : List UInt8) : readN (l ++ t) = some r := by
  unfold Wire.readN at h ⊢
  cases hs : Wire.scan l (0, 0) with
  | none => rw [hs] at h; cases h
  | some q => rw [scan_more l t _ _ hs]; rw [hs] at h; exact h
theorem add_list (s t : ByteArray) : (s ++ t).data.toList = s.data.toList ++ t.data.toList := by simp [ByteArray.data_append]
theorem add_size (s t : ByteArray) : (s ++ t).size = s.size + t.size := by rw [← data_len, add_list, List.length_append, data_len, data_len]
theorem bytesAt_more (s t : ByteArray) (a : Int) (h : bytesAt s a ≠ []) : ∃ u, bytesAt (s ++ t) a = bytesAt s a ++ u := by
  have hi := Wire.bytesAt_in h
  unfold Wire.bytesAt
  rw [if_pos hi.1, if_pos hi.1, add_list, List.drop_append]
  exact ⟨_, rfl⟩
theorem extract_list (s : ByteArray) (i j : Nat) : (s.extract i j).data.toList = (s.data.toList.drop i).take (j - i) := by
  simp [ByteArray.data_extract, Array.toList_extract, List.extract]
theorem bytes_ext {s t : ByteArray} (h : s.data.toList = t.data.toList) : s = t := by
  rw [← bs_data s, ← bs_data t, h]
theorem extract_more (s t : ByteArray) (i j : Nat) (hj : j ≤ s.size) : (s ++ t).extract i j = s.extract i j := by
  apply bytes_ext
  rw [extract_list, extract_list, add_list]
  rcases Nat.lt_or_ge i j with h | h
  · rw [List.drop_append_of_le_length (by rw [data_len]; omega), List.take_append_of_le_length (by rw [List.length_drop, data_len]; omega)]
  · rw [show j - i = 0 by omega]; simp
theorem readT_more (s t : ByteArray) (a : Int) (r : ByteArray × Int) (h : readT s a = some r) : readT (s ++ t) a = some r := by
  unfold Wire.readT at h ⊢
  cases hr : readN (bytesAt s a) with
  | none => rw [hr] at h; cases h
  | some q =>
    have h0 : bytesAt s a ≠ [] := fun h0 => by rw [h0, Wire.readN_nil] at hr; cases hr
    obtain ⟨u, hu⟩ := bytesAt_more s t a h0
    have hi := Wire.bytesAt_in h0
    rw [hu, readN_more hr u]
    rw [hr] at h
    simp only at h ⊢
    split at h
    · rename_i hc
      rw [if_pos ⟨hc.1, hc.2.1, by rw [add_size]; omega⟩, extract_more _ _ _ _ (by omega)]
      exact h
    · cases h
theorem bytesAt_step {s : ByteArray} {a : Int} {u t : List UInt8} (h : bytesAt s a = u ++ t) (h0 : 0 ≤ a) : bytesAt s (a + (u.length : Int)) = t := by
  unfold Wire.bytesAt at h ⊢
  rw [if_pos h0] at h
  rw [if_pos (by omega), show (a + (u.length : Int)).toNat = a.toNat + u.length by omega, ← List.drop_drop, h, List.drop_left']
  rfl
theorem numB_ne (n : Int) : numB n ≠ [] := fun h => by
  have := Wire.grp_pos 9 (Wire.foldN n)
  rw [← Wire.numB_length, h] at this
  cases this
theorem bytesAt_num {s : ByteArray} {a n : Int} {t : List UInt8} (h : bytesAt s a = numB n ++ t) : 0 ≤ a :=
  (Wire.bytesAt_in (fun h0 => numB_ne n (List.append_eq_nil_iff.1 (h.symm.trans h0)).1)).1
theorem bytesAt_0 (s : ByteArray) : bytesAt s 0 = s.data.toList := by unfold Wire.bytesAt; rw [if_pos (Int.le_refl _)]; rfl
theorem bytesAt_at (a b : List UInt8) : bytesAt (bs (a ++ b)) (a.length : Int) = b := by
  unfold Wire.bytesAt
  rw [if_pos (Int.natCast_nonneg _), bs_list]
  simp

/-- What is laid is read. -/
theorem takeI_full {s : ByteArray} {a n : Int} {t : List UInt8} (h : bytesAt s a = numB n ++ t) (h1 : -9223372036854775808 ≤ n) (h2 : n ≤ 9223372036854775807) : takeI s (a, 0) = (n, a + ((numB n).length : Int), 0) := by
  unfold takeI
  rw [if_neg (by simp)]
  simp only
  rw [h, Wire.readN_numB n h1 h2 t]
theorem takeT_full {s x : ByteArray} {a : Int} {t : List UInt8} (h : bytesAt s a = nmB x ++ t) (hs : x.size ≤ 10000) : takeT s (a, 0) = (x, a + ((nmB x).length : Int), 0) := by
  have h' : bytesAt s a = numB (x.size : Int) ++ (x.data.toList ++ t) := by rw [h]; unfold nmB; rw [List.append_assoc]
  have h0 := bytesAt_num h'
  have hd : s.data.toList.drop a.toNat = numB (x.size : Int) ++ (x.data.toList ++ t) := by rw [← h']; unfold Wire.bytesAt; rw [if_pos h0]
  have hl := congrArg List.length hd
  rw [List.length_drop, data_len, List.length_append, List.length_append, data_len] at hl
  have hnp : 0 < (numB (x.size : Int)).length := List.length_pos_iff.2 (numB_ne _)
  have he : s.extract (a.toNat + (numB (x.size : Int)).length) (a.toNat + (numB (x.size : Int)).length + (x.size : Int).toNat) = x := by
    apply bytes_ext
    rw [extract_list, ← List.drop_drop, hd, List.drop_left' rfl, show a.toNat + (numB (x.size : Int)).length + (x.size : Int).toNat - (a.toNat + (numB (x.size : Int)).length) = x.data.toList.length by rw [data_len]; omega, List.take_left' rfl]
  unfold takeT
  rw [if_neg (by simp)]
  simp only
  unfold Wire.readT
  rw [h', Wire.readN_numB _ (by omega) (by omega)]
  simp only
  rw [if_pos ⟨by omega, by omega, by omega⟩, he]
  unfold nmB
  rw [List.length_append, data_len]
  push_cast
  rw [Int.add_assoc]
theorem upT_full {s : ByteArray} {a n m : Int} {t : List UInt8} (h : bytesAt s a = numB n ++ t) (h1 : 0 ≤ n) (h2 : n ≤ m) (hm : m ≤ 1000) : upT s m (a, 0) = (n, a + ((numB n).length : Int), 0) := by
  unfold upT
  rw [takeI_full h (by omega) (by omega), if_neg (by simp; omega)]
theorem fieldT_full {s : ByteArray} {f : Fd} {a : Int} {t : List UInt8} (h : bytesAt s a = encFd f ++ t) (hf : f.nm.size ≤ 10000) (hr : -1000 ≤ f.k ∧ f.k ≤ 1000 ∧ -1000 ≤ f.o ∧ f.o ≤ 1000) : fieldT s (a, 0) = (f, a + ((encFd f).length : Int), 0) := by
  have h1 : bytesAt s a = nmB f.nm ++ (numB f.k ++ (numB f.o ++ (numB (ixN f.ix) ++ t))) := by rw [h]; unfold encFd; simp
  have h0 : 0 ≤ a := by
    refine bytesAt_num (s := s) (n := (f.nm.size : Int)) (t := f.nm.data.toList ++ (numB f.k ++ (numB f.o ++ (numB (ixN f.ix) ++ t)))) ?_
    rw [h1]; unfold nmB; simp
  have e1 := takeT_full h1 hf
  have h2 := bytesAt_step h1 h0
  have e2 := takeI_full h2 (by omega) (by omega)
  have h3 := bytesAt_step h2 (by omega)
  have e3 := takeI_full h3 (by omega) (by omega)
  have h4 := bytesAt_step h3 (by omega)
  have e4 := upT_full (m := 1) h4 (by unfold ixN; split <;> decide) (by unfold ixN; split <;> decide) (by decide)
  unfold fieldT
  rw [e1]
  unfold typeT flagT
  simp only
  rw [e2]
  simp only
  rw [e3]
  simp only
  rw [e4]
  obtain ⟨nm, k, o, ix⟩ := f
  have hix : (ixN ix == 1) = ix := by cases ix <;> rfl
  simp only [hix, Prod.mk.injEq, true_and, and_true]
  unfold encFd
  simp only [List.length_append]
  push_cast
  omega
theorem fieldsT_full {s : ByteArray} {l : List Fd} {a : Int} {t : List UInt8} (hl : ∀ f ∈ l, f.nm.size ≤ 10000 ∧ -1000 ≤ f.k ∧ f.k ≤ 1000 ∧ -1000 ≤ f.o ∧ f.o ≤ 1000) (h0 : 0 ≤ a) (h : bytesAt s a = l.flatMap encFd ++ t) : ∀ n, n ≤ l.length → fieldsT s n (a, 0) = (l.take n, a + (((l.take n).flatMap encFd).length : Int), 0)
  | 0, _ => by simp [fieldsT]
  | n + 1, hn => by
    have ih := fieldsT_full hl h0 h n (by omega)
    obtain ⟨x, hx⟩ : ∃ x, l[n]? = some x := ⟨_, List.getElem?_eq_getElem (by omega)⟩
    have ht : l.take (n + 1) = l.take n ++ [x] := by rw [List.take_add_one, hx]; rfl
    have hb : bytesAt s a = (l.take n).flatMap encFd ++ (encFd x ++ ((l.drop (n + 1)).flatMap encFd ++ t)) := by
      rw [h]
      conv => lhs; rw [← List.take_append_drop (n + 1) l, ht]
      simp
    have hs := bytesAt_step hb h0
    rw [fieldsT, ih]
    simp only
    rw [fieldT_full hs (hl x (List.mem_of_getElem? hx)).1 (hl x (List.mem_of_getElem? hx)).2, ht]
    simp only [List.flatMap_append, List.length_append, List.flatMap_cons, List.flatMap_nil, List.append_nil, Prod.mk.injEq, true_and, and_true]
    push_cast
    omega
/-- Decode undoes Encode, wherever the bytes stand. -/
theorem decC_full (h b : List UInt8) (c : Cl) (hc : clsR c = true) : decC (bs (h ++ (encC c ++ b))) (h.length : Int) = some (c, (h.length : Int) + ((encC c).length : Int)) := by
  obtain ⟨hn, h8, hfs⟩ := clsR_facts hc
  have hns := rightNm_size hn
  have hl : ∀ f ∈ c.l, f.nm.size ≤ 10000 ∧ -1000 ≤ f.k ∧ f.k ≤ 1000 ∧ -1000 ≤ f.o ∧ f.o ≤ 1000 := fun f hf => by
    obtain ⟨i, hi, rfl⟩ := List.getElem_of_mem hf
    have := fieldR_facts (hfs i _ (List.getElem?_eq_getElem hi)).2
    omega
  have h1 : bytesAt (bs (h ++ (encC c ++ b))) (h.length : Int) = nmB c.nm ++ (numB (c.l.length : Int) ++ (c.l.flatMap encFd ++ b)) := by
    rw [bytesAt_at]; unfold encC; simp
  have e1 := takeT_full h1 (by omega)
  have h2 := bytesAt_step h1 (by omega)
  have e2 := upT_full (m := 8) h2 (by omega) (by omega) (by decide)
  have h3 := bytesAt_step h2 (by omega)
  have e3 := fieldsT_full hl (by omega) h3 c.l.length (Nat.le_refl _)
  rw [List.take_length] at e3
  have es : severalT (bs (h ++ (encC c ++ b))) ((h.length : Int) + ((nmB c.nm).length : Int), 0) = (c.l, (h.length : Int) + ((nmB c.nm).length : Int) + ((numB (c.l.length : Int)).length : Int) + ((c.l.flatMap encFd).length : Int), 0) := by
    unfold severalT
    rw [e2]
    simp only [Int.toNat_natCast]
    exact e3
  unfold decC
  rw [e1]
  simp only
  rw [es, if_neg (by simp [hc])]
  simp only [Option.some.injEq, Prod.mk.injEq, true_and]
  unfold encC
  simp only [List.length_append]
  push_cast
  omega
theorem encC_inj {a b : Cl} (ha : clsR a = true) (hb : clsR b = true) (h : encC a = encC b) : a = b := by
  have h1 := decC_full [] [] a ha
  have h2 := decC_full [] [] b hb
  rw [h] at h1
  rw [h1] at h2
  exact (Prod.mk.inj (Option.some.inj h2)).1
theorem same_bytes {a b : Cl} (ha : clsR a = true) (hb : clsR b = true) : ((bs (encC a)).toList == (bs (encC b)).toList) = sameC a b := by
  rw [Bool.eq_iff_iff, beq_iff_eq, sameC_iff]
  constructor
  · intro h
    refine encC_inj ha hb ?_
    rw [ByteArray.toList_eq, ByteArray.toList_eq, bs_list, bs_list] at h
    exact h
  · rintro rfl; rfl
end Go.Proofs.YtmobnlofbopbeaaDoor.Cls
