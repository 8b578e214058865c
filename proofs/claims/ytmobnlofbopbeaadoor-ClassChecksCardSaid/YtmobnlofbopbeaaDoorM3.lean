/- The document's own answer for classes: types, names. -/
import Derived.Test.YtmobnlofbopbeaaDoorClass5
import Derived.Test.YtmobnlofbopbeaaDoorM2
import Derived.Test.YtmobnlofbopbeaaDoorM1
import Derived.Deep.QuietTactic
namespace Go.Proofs.YtmobnlofbopbeaaDoor.Cls
open Go.RowKit
open Kit (ret_int ret_bool)

attribute [local go_sem] Oper.semAt_some

theorem single_any (k : Int) (w : World) : Calls Tryd.prog 63 #[.int .i64 k] w fun e w' => e = .returned (.bool (Val.inK k)) ∧ w = w' := by
  unfold Val.inK
  by_cases a : 1 ≤ k
  · rw [decide_eq_true a, Bool.true_and]
    by_cases b : k ≤ 4
    all_goals
      go_enter Tryd.func63, Tryd.ntmps63
      go_wp2
      go_ret
      exact ⟨ret_bool (by simp [*]), rfl⟩
  · rw [decide_eq_false a, Bool.false_and]
    go_enter Tryd.func63, Tryd.ntmps63
    go_wp2
    go_ret
    exact ⟨rfl, rfl⟩
theorem refType_any (K O : Int) (w : World) : Calls Tryd.prog 41 #[.agg #[.int .i64 K, .int .i64 O]] w fun e w' => e = .returned (.bool (Val.rightTy K O)) ∧ Below w.heap.size w w' := by
  have hB := Kit.below_alloc w (.cells #[.int .i64 K, .int .i64 O] 44)
  have HP := Lib.hid (fun W => single_any K W)
  have HO := Lib.hid (fun W => single_any O W)
  by_cases k5 : K = 5
  · have hr : Val.rightTy K O = Val.inK O := by unfold Val.rightTy; rw [if_pos k5]
    have hk : Val.inK K = false := by rw [k5]; rfl
    rw [hk] at HP
    rw [hr]
    have k5b : (K == 5) = true := by simpa using k5
    clear k5 hr hk
    go_enter Tryd.func41, Tryd.ntmps41
    go_wp2_with fail
    refine (HP.out _).mono ?_; rintro e w' ⟨rfl, rfl⟩
    go_wp2_with fail
    refine (HO.out _).mono ?_; rintro e w' ⟨rfl, rfl⟩
    go_wp2
    go_ret
    exact ⟨ret_bool (by simp), hB⟩
  · have hr : Val.rightTy K O = (Val.inK K && O == 0) := by unfold Val.rightTy; rw [if_neg k5]
    rw [hr]
    have k5b : (K == 5) = false := by simpa using k5
    clear k5 hr HO
    cases hk : Val.inK K <;> cases ho : O == 0
    all_goals
      rw [hk] at HP
      clear hk
      go_enter Tryd.func41, Tryd.ntmps41
      go_wp2_with fail
      refine (HP.out _).mono ?_; rintro e w' ⟨rfl, rfl⟩
      go_wp2
      go_ret
      exact ⟨ret_bool (by simp), hB⟩
end Go.Proofs.YtmobnlofbopbeaaDoor.Cls
/- The document's own answer for classes: names, byte by byte. -/
namespace Go.Proofs.YtmobnlofbopbeaaDoor.Cls
open Go.RowKit
open Kit (ret_int ret_bool)
open Val (gb byteN byteN_lt byteN_at byteN_list data_len decodeL_N gb_lt)

attribute [local go_sem] Oper.semAt_some

theorem dec_first {l : List UInt8} {c k : Nat} (h : Lib.decodeL l = (c, k)) : (gb l 0 < 128 ∧ c = gb l 0 ∧ k = 1) ∨ (128 ≤ gb l 0 ∧ 128 ≤ c) := by
  rw [decodeL_N] at h
  unfold Lib.decodeN at h
  repeat' split at h
  all_goals (cases h; omega)
theorem nin_big {c : Nat} (h : 128 ≤ c) : nin c = true := by
  unfold nin letter
  simp
  omega
theorem nin_from (s : ByteArray) : ∀ (n pos f : Nat), (s.data.toList.drop pos).length ≤ n → (s.data.toList.drop pos).length ≤ f → (Lib.idxFuncFrom nin true s f pos = -1 ↔ ∀ b ∈ s.data.toList.drop pos, nin b.toNat = false)
  | 0, pos, f, h, _ => by
    have hd : s.data.toList.drop pos = [] := List.eq_nil_of_length_eq_zero (by omega)
    rw [hd]
    have hp : ¬ pos < s.size := by rw [List.length_drop, data_len] at h; omega
    rw [Lib.idxFuncFrom_end _ _ _ _ _ hp]
    simp
  | n + 1, pos, f, h, hf => by
    by_cases hp : pos < s.size
    · have hpl : pos < s.data.toList.length := by rw [data_len]; exact hp
      have hlen : (s.data.toList.drop pos).length = s.size - pos := by rw [List.length_drop, data_len]
      obtain ⟨g, rfl⟩ : ∃ g, f = g + 1 := ⟨f - 1, by omega⟩
      obtain ⟨c, k, hd⟩ : ∃ c k, Lib.decodeL (s.data.toList.drop pos) = (c, k) := ⟨_, _, rfl⟩
      have hdec : Utf8.decode s pos = (c, k) := by rw [← Lib.decodeL_drop, hd]
      rw [Lib.idxFuncFrom, if_pos hp, hdec, List.drop_eq_getElem_cons hpl]
      have hg : gb (s.data.toList.drop pos) 0 = (s.data.toList[pos]).toNat := by
        unfold gb
        rw [List.drop_eq_getElem_cons hpl]; rfl
      rcases dec_first hd with ⟨h1, h2, rfl⟩ | ⟨h1, h2⟩
      · rw [hg] at h1 h2
        subst h2
        dsimp only
        cases hn : nin (s.data.toList[pos]).toNat
        · rw [if_neg (by simp), nin_from s n (pos + 1) g (by rw [List.length_drop, data_len]; omega) (by rw [List.length_drop, data_len]; omega)]
          constructor
          · intro h3 b hb
            rcases List.mem_cons.1 hb with rfl | hb
            · exact hn
            · exact h3 b hb
          · intro h3 b hb
            exact h3 b (List.mem_cons_of_mem _ hb)
        · rw [if_pos rfl]
          constructor
          · intro h3; omega
          · intro h3
            have := h3 _ (List.mem_cons_self ..)
            rw [hn] at this; cases this
      · rw [if_pos (nin_big h2)]
        rw [hg] at h1
        constructor
        · intro h3; omega
        · intro h3
          have := h3 _ (List.mem_cons_self ..)
          rw [nin_big h1] at this; cases this
    · have hd : s.data.toList.drop pos = [] := List.drop_eq_nil_of_le (by rw [data_len]; omega)
      rw [hd, Lib.idxFuncFrom_end _ _ _ _ _ hp]
      simp
theorem hasNin_iff (s : ByteArray) : hasNin s = false ↔ ∀ j, j < s.size → nin (byteN s j) = false := by
  unfold hasNin Lib.idxFunc
  rw [decide_eq_false_iff_not]
  have h := nin_from s s.size 0 s.size (by rw [List.drop_zero, data_len]; exact Nat.le_refl _) (by rw [List.drop_zero, data_len]; exact Nat.le_refl _)
  rw [List.drop_zero] at h
  have e : (¬ 0 ≤ Lib.idxFuncFrom nin true s s.size 0) ↔ Lib.idxFuncFrom nin true s s.size 0 = -1 := by
    rcases Lib.idxFuncFrom_range nin true s s.size 0 with h1 | h1 <;> omega
  rw [e, h]
  constructor
  · intro h1 j hj
    have hjl : j < s.data.toList.length := by rw [data_len]; exact hj
    have := h1 _ (List.getElem_mem hjl)
    rw [byteN_list]
    unfold gb
    rw [List.getD_eq_getElem?_getD, List.getElem?_eq_getElem hjl]
    exact this
  · intro h1 b hb
    obtain ⟨j, hj, rfl⟩ := List.getElem_of_mem hb
    have := h1 j (by rw [data_len] at hj; exact hj)
    rw [byteN_list] at this
    unfold gb at this
    rw [List.getD_eq_getElem?_getD, List.getElem?_eq_getElem hj] at this
    exact this
theorem rightNm_iff (s : ByteArray) : rightNm s = true ↔ 1 ≤ s.size ∧ s.size ≤ 20 ∧ letter (byteN s 0 : Int) = true ∧ ∀ j, j < s.size → nin (byteN s j) = false := by
  unfold rightNm
  have h0 : s.data.toList.head?.getD 0 = s.data.toList.getD 0 0 := by cases s.data.toList <;> rfl
  rw [Bool.and_eq_true, Bool.and_eq_true, Bool.and_eq_true, decide_eq_true_iff, Bool.not_eq_true', Bool.not_eq_true', hasNin_iff, byteN_list]
  unfold gb
  rw [h0]
  have he : (s.data.toList.isEmpty = false) ↔ 1 ≤ s.size := by
    rw [← data_len]
    cases s.data.toList <;> simp
  rw [he]
theorem rightNm_no {s : ByteArray} (h : ¬ (1 ≤ s.size ∧ s.size ≤ 20 ∧ letter (byteN s 0 : Int) = true ∧ ∀ j, j < s.size → nin (byteN s j) = false)) : rightNm s = false := by
  cases hr : rightNm s
  · rfl
  · exact absurd ((rightNm_iff s).1 hr) h
theorem letter_iff {b : Nat} : letter (b : Int) = true ↔ 97 ≤ b ∧ b ≤ 122 := by unfold letter; simp; omega
theorem nin_iff {b : Nat} : nin b = false ↔ (97 ≤ b ∧ b ≤ 122) ∨ (48 ≤ b ∧ b ≤ 57) ∨ b = 95 := by
  unfold nin letter
  simp
  omega

set_option maxRecDepth 100000 in
set_option maxHeartbeats 4000000 in
theorem name_any (s : ByteArray) (hs : s.size ≤ 140737488351232) (w : World) : Calls Tryd.prog 40 #[.string s] w fun e w' => e = .returned (.bool (rightNm s)) ∧ w = w' := by
  by_cases h1 : 1 ≤ s.size
  case neg =>
    have i1 : (s.size : Int) < 1 := by omega
    rw [rightNm_no (fun h => h1 h.1)]
    clear h1
    go_enter Tryd.func40, Tryd.ntmps40
    go_wp2
    go_ret
    exact ⟨rfl, rfl⟩
  case pos =>
  have i1 : ¬ (s.size : Int) < 1 := by omega
  by_cases h20 : s.size ≤ 20
  case neg =>
    have i2 : (20 : Int) < (s.size : Int) := by omega
    rw [rightNm_no (fun h => h20 h.2.1)]
    clear h1 h20
    go_enter Tryd.func40, Tryd.ntmps40
    go_wp2
    go_ret
    exact ⟨rfl, rfl⟩
  case pos =>
  have i2 : ¬ (20 : Int) < (s.size : Int) := by omega
  have HH := Lib.hid (And.intro h1 h20)
  clear h1 h20
  go_enter Tryd.func40, Tryd.ntmps40
  go_wp2
  go_loopw [3] (fun i wr => ∃ k : Nat, k ≤ s.size ∧ i = .int .i64 k ∧ wr = w ∧ (k = 0 ∨ letter (byteN s 0 : Int) = true) ∧ ∀ j, j < k → nin (byteN s j) = false) (fun i _ => s.size - (intOf i).toNat)
  case atStart => exact ⟨0, by omega, rfl, rfl, .inl rfl, fun j h => by omega⟩
  case round =>
    obtain ⟨k, hk, rfl, rfl, h0, hz⟩ := hrel
    have HZ := Lib.hid (And.intro h0 hz)
    clear h0 hz
    by_cases hlt : k < s.size
    · have j1 : (k : Int) < (s.size : Int) := by omega
      have hbk := byteN_at s k hlt
      have HG := Lib.hid (fun (h : nin (byteN s k) = false) (h0 : k = 0 → letter (byteN s k : Int) = true) => (show ((k + 1 = 0 ∨ letter (byteN s 0 : Int) = true) ∧ ∀ j, j < k + 1 → nin (byteN s j) = false) from
        ⟨.inr (HZ.out.1.elim (fun h2 => h2 ▸ h0 h2) id), fun j hj => by
          rcases Nat.lt_or_ge j k with h3 | h3
          · exact HZ.out.2 j h3
          · obtain rfl : j = k := by omega
            exact h⟩))
      have HN := Lib.hid (fun (h : nin (byteN s k) = true ∨ (k = 0 ∧ letter (byteN s k : Int) = false)) => (show rightNm s = false from rightNm_no (fun h2 => by
        rcases h with h | ⟨rfl, h⟩
        · rw [h2.2.2.2 k hlt] at h; cases h
        · rw [h2.2.2.1] at h; cases h)))
      have HL := Lib.hid (And.intro (@letter_iff (byteN s k)) (@nin_iff (byteN s k)))
      have lk := byteN_lt s k
      generalize byteN s k = b at *
      rcases (show (97 ≤ b ∧ b ≤ 122) ∨ (122 < b ∧ b ≤ 255) ∨ (48 ≤ b ∧ b ≤ 57) ∨ (b < 48 ∧ b < 49) ∨ (95 ≤ b ∧ b ≤ 95) ∨ (57 < b ∧ b < 97 ∧ b ≠ 95) by omega) with ⟨m1, m2⟩ | ⟨m1, m2⟩ | ⟨m1, m2⟩ | ⟨m1, m2⟩ | ⟨m1, m2⟩ | ⟨m1, m2, m3⟩
      · have l1 : (97 : Int) ≤ (b : Int) := by omega
        have l2 : (b : Int) ≤ 122 := by omega
        have l3 : (48 : Int) ≤ (b : Int) := by omega
        have l4 : ¬ (b : Int) ≤ 57 := by omega
        have l5 : ((b : Int) == 95) = false := beq_eq_false_iff_ne.2 (by omega)
        have HA := Lib.hid (HG.out (HL.out.2.2 (.inl ⟨m1, m2⟩)) (fun _ => HL.out.1.2 ⟨m1, m2⟩))
        go_wp2
        go_roundw
        case rel => exact ⟨k + 1, by omega, by go_num, trivial, HA.out⟩
        case measure => simp [intOf]; omega
      · have l1 : (97 : Int) ≤ (b : Int) := by omega
        have l2 : ¬ (b : Int) ≤ 122 := by omega
        have l3 : (48 : Int) ≤ (b : Int) := by omega
        have l4 : ¬ (b : Int) ≤ 57 := by omega
        have l5 : ((b : Int) == 95) = false := beq_eq_false_iff_ne.2 (by omega)
        have HA := Lib.hid (HN.out (.inl (by rw [← Bool.not_eq_false]; intro h; have := HL.out.2.1 h; omega)))
        cases k0 : ((k : Int) == 0)
        all_goals
          go_wp2
          go_ret
          exact ⟨ret_bool HA.out.symm, rfl⟩
      · have l1 : ¬ (97 : Int) ≤ (b : Int) := by omega
        have l3 : (48 : Int) ≤ (b : Int) := by omega
        have l4 : (b : Int) ≤ 57 := by omega
        by_cases hk0 : k = 0
        · have k0 : ((k : Int) == 0) = true := by simp [hk0]
          have HA := Lib.hid (HN.out (.inr ⟨hk0, by rw [← Bool.not_eq_true]; intro h; have := HL.out.1.1 h; omega⟩))
          clear hk0
          go_wp2
          go_ret
          exact ⟨ret_bool HA.out.symm, rfl⟩
        · have k0 : ((k : Int) == 0) = false := by simp [hk0]
          have HA := Lib.hid (HG.out (HL.out.2.2 (.inr (.inl ⟨m1, m2⟩))) (fun h => absurd h hk0))
          clear hk0
          go_wp2
          go_roundw
          case rel => exact ⟨k + 1, by omega, by go_num, trivial, HA.out⟩
          case measure => simp [intOf]; omega
      · have l1 : ¬ (97 : Int) ≤ (b : Int) := by omega
        have l3 : ¬ (48 : Int) ≤ (b : Int) := by omega
        have l5 : ((b : Int) == 95) = false := beq_eq_false_iff_ne.2 (by omega)
        have HA := Lib.hid (HN.out (.inl (by rw [← Bool.not_eq_false]; intro h; have := HL.out.2.1 h; omega)))
        cases k0 : ((k : Int) == 0)
        all_goals
          go_wp2
          go_ret
          exact ⟨ret_bool HA.out.symm, rfl⟩
      · have l1 : ¬ (97 : Int) ≤ (b : Int) := by omega
        have l3 : (48 : Int) ≤ (b : Int) := by omega
        have l4 : ¬ (b : Int) ≤ 57 := by omega
        have l5 : ((b : Int) == 95) = true := beq_iff_eq.2 (by omega)
        by_cases hk0 : k = 0
        · have k0 : ((k : Int) == 0) = true := by simp [hk0]
          have HA := Lib.hid (HN.out (.inr ⟨hk0, by rw [← Bool.not_eq_true]; intro h; have := HL.out.1.1 h; omega⟩))
          clear hk0
          go_wp2
          go_ret
          exact ⟨ret_bool HA.out.symm, rfl⟩
        · have k0 : ((k : Int) == 0) = false := by simp [hk0]
          have HA := Lib.hid (HG.out (HL.out.2.2 (.inr (.inr (by omega)))) (fun h => absurd h hk0))
          clear hk0
          go_wp2
          go_roundw
          case rel => exact ⟨k + 1, by omega, by go_num, trivial, HA.out⟩
          case measure => simp [intOf]; omega
      · have l1 : ¬ (97 : Int) ≤ (b : Int) := by omega
        have l3 : (48 : Int) ≤ (b : Int) := by omega
        have l4 : ¬ (b : Int) ≤ 57 := by omega
        have l5 : ((b : Int) == 95) = false := beq_eq_false_iff_ne.2 (by omega)
        have HA := Lib.hid (HN.out (.inl (by rw [← Bool.not_eq_false]; intro h; have := HL.out.2.1 h; omega)))
        cases k0 : ((k : Int) == 0)
        all_goals
          go_wp2
          go_ret
          exact ⟨ret_bool HA.out.symm, rfl⟩
    · have hkk : k = s.size := by omega
      subst hkk
      have j1 : ¬ (s.size : Int) < (s.size : Int) := by omega
      have HA := Lib.hid (show rightNm s = true from (rightNm_iff s).2 ⟨HH.out.1, HH.out.2, HZ.out.1.resolve_left (by have := HH.out.1; omega), HZ.out.2⟩)
      go_wp2
      go_ret
      exact ⟨ret_bool HA.out.symm, rfl⟩
end Go.Proofs.YtmobnlofbopbeaaDoor.Cls
/- The document's own answer for classes: Right. -/
namespace Go.Proofs.YtmobnlofbopbeaaDoor.Cls
open Go.RowKit
open Kit (ret_int ret_bool)
open Val (Env flat bs Vl Rep RepL)

attribute [local go_sem] Oper.semAt_some

/-- May a field of a right type be indexed as it is? -/
theorem fieldR_iff (f : Fd) : fieldR f = (rightNm f.nm && (Val.rightTy f.k f.o && !(f.ix && decide (3 < f.k)))) := by
  unfold fieldR
  cases hn : rightNm f.nm
  · rfl
  · cases ht : Val.rightTy f.k f.o
    · rfl
    · have hk : 1 ≤ f.k ∧ f.k ≤ 5 := by
        unfold Val.rightTy Val.inK at ht
        split at ht
        · omega
        · simp at ht; omega
      have hi : indexK f.k = !decide (3 < f.k) := by
        rcases (show f.k = 1 ∨ f.k = 2 ∨ f.k = 3 ∨ f.k = 4 ∨ f.k = 5 by omega) with h | h | h | h | h <;> rw [h] <;> rfl
      rw [hi]
      cases f.ix <;> simp

set_option maxRecDepth 100000 in
set_option maxHeartbeats 4000000 in
theorem refRight_cl (c : Cl) (hs : c.fits) (B : Nat) (w : World) (lv : Value) (hB : B ≤ w.heap.size) (hr : FdL B w c.l lv) :
    Calls Tryd.prog 21 #[.agg #[.string c.nm, lv]] w fun e w' => e = .returned (.bool (clsR c)) ∧ Below w.heap.size w w' := by
  obtain ⟨a1, c1, rfl, z1⟩ := hr.len
  unfold maxLen at z1
  have hB1 := Kit.below_alloc w (.cells #[.string c.nm, .slice a1 c.l.length c1] 27)
  have g0 := Kit.cell_new w #[.string c.nm, .slice a1 c.l.length c1] 27 0 rfl
  have g1 := Kit.cell_new w #[.string c.nm, .slice a1 c.l.length c1] 27 1 rfl
  have G := Lib.hid (And.intro g0 g1)
  have BB := Lib.hid hB1
  have HL := Lib.hid (And.intro hr (And.intro hB hs))
  have HN := Lib.hid (fun W => name_any c.nm hs.1 W)
  clear hB1 hr hB hs
  by_cases hn : rightNm c.nm = true
  case neg =>
    have hnf : rightNm c.nm = false := by simpa using hn
    have HR := Lib.hid (clsR_false (c := c) (fun h => hn h.1))
    rw [hnf] at HN
    clear hn hnf
    go_enter Tryd.func21, Tryd.ntmps21
    go_wp2_with fail
    refine (HN.out _).mono ?_; rintro e w' ⟨rfl, rfl⟩
    go_wp2
    go_ret
    exact ⟨ret_bool HR.out.symm, BB.out⟩
  case pos =>
  rw [hn] at HN
  by_cases h8 : c.l.length ≤ 8
  case neg =>
    have i8 : (8 : Int) < (c.l.length : Int) := by omega
    have HR := Lib.hid (clsR_false (c := c) (fun h => h8 h.2.1))
    clear hn h8
    go_enter Tryd.func21, Tryd.ntmps21
    go_wp2_with fail
    refine (HN.out _).mono ?_; rintro e w' ⟨rfl, rfl⟩
    go_wp2
    go_ret
    exact ⟨ret_bool HR.out.symm, BB.out⟩
  case pos =>
  have i8 : ¬ (8 : Int) < (c.l.length : Int) := by omega
  have H8 := Lib.hid (And.intro hn h8)
  clear hn
  go_enter Tryd.func21, Tryd.ntmps21
  go_wp2_with fail
  refine (HN.out _).mono ?_; rintro e w' ⟨rfl, rfl⟩
  go_upto_region 3 with fail
  generalize w.alloc (.cells #[.string c.nm, .slice a1 c.l.length c1] 27) = W0 at *
  go_wp2_with fail
  clear g0 g1
  go_loopw [3] (fun i wr => ∃ k : Nat, k ≤ c.l.length ∧ i = .int .i64 k ∧ Below W0.heap.size W0 wr ∧ (∀ j f, j < k → c.l[j]? = some f → fieldR f = true) ∧ ∀ j1 j2 f g, j1 < j2 → j2 < k → c.l[j1]? = some f → c.l[j2]? = some g → f.nm ≠ g.nm) (fun i _ => c.l.length - (intOf i).toNat)
  case atStart => exact ⟨0, by omega, rfl, Below.refl _ _, fun j f h => by omega, fun j1 j2 f g _ h => by omega⟩
  case round =>
    obtain ⟨k, hk, rfl, hBW, hz⟩ := hrel
    have BW := Lib.hid hBW
    have HZ := Lib.hid hz
    have q1 := (hBW.cell (p := ⟨w.heap.size, 1, none⟩) (Kit.lt_of_cell G.out.2)).trans G.out.2
    clear hBW hz
    by_cases hlt : k < c.l.length
    · have j1 : (k : Int) < (c.l.length : Int) := by omega
      obtain ⟨f, hf⟩ : ∃ f, c.l[k]? = some f := ⟨_, List.getElem?_eq_getElem hlt⟩
      obtain ⟨b, o, cc, he, hb, r0, r1, r2, r3⟩ := HL.out.1.at hf
      cases he
      have hBA : Below w.heap.size w wr := BB.out.trans (BW.out.mono BB.out.size)
      have hbs : b < w.heap.size := by have := HL.out.2.1; omega
      have s0 := (hBA.cell (p := ⟨b, o + k * 4, none⟩) hbs).trans r0
      have s1 := (hBA.cell (p := ⟨b, o + k * 4 + 1, none⟩) hbs).trans r1
      have s2 := (hBA.cell (p := ⟨b, o + k * 4 + 2, none⟩) hbs).trans r2
      have s3 := (hBA.cell (p := ⟨b, o + k * 4 + 3, none⟩) hbs).trans r3
      have HF := Lib.hid hf
      have t := Kit.box4_new wr (.string f.nm) (.int .i64 f.k) (.int .i64 f.o) (.bool f.ix) 46
      have T := Lib.hid t
      have BX := Lib.hid (Kit.below_alloc wr (.cells #[.string f.nm, .int .i64 f.k, .int .i64 f.o, .bool f.ix] 46))
      have HNF := Lib.hid (fun W => name_any f.nm (HL.out.2.2.2 f (List.mem_of_getElem? hf)) W)
      have HTF := Lib.hid (fun W => refType_any f.k f.o W)
      have HFR := Lib.hid (fieldR_iff f)
      have HNO := Lib.hid (fun (h : fieldR f = false) => clsR_false (c := c) (fun h2 => by have := h2.2.2.1 k f hf; rw [h] at this; cases this))
      clear r0 r1 r2 r3 hf hbs hBA
      go_upto_region 7 with fail
      generalize wr.alloc (.cells #[.string f.nm, .int .i64 f.k, .int .i64 f.o, .bool f.ix] 46) = W1 at *
      obtain ⟨t0, t1, t2, t3⟩ := t
      have BW1 := Lib.hid ((BB.out.trans (BW.out.mono BB.out.size)).trans (BX.out.mono (BB.out.trans (BW.out.mono BB.out.size)).size))
      cases hn2 : rightNm f.nm
      · rw [hn2] at HNF HFR
        have HR := Lib.hid (HNO.out (by rw [HFR.out]; rfl))
        clear hn2
        go_wp2_with fail
        refine (HNF.out _).mono ?_; rintro e w' ⟨rfl, rfl⟩
        go_wp2
        go_ret
        exact ⟨ret_bool HR.out.symm, BW1.out⟩
      rw [hn2] at HNF HFR
      clear hn2
      cases ht2 : Val.rightTy f.k f.o
      · rw [ht2] at HTF HFR
        have HR := Lib.hid (HNO.out (by rw [HFR.out]; rfl))
        clear ht2
        go_wp2_with fail
        refine (HNF.out _).mono ?_; rintro e w' ⟨rfl, rfl⟩
        go_wp2_with fail
        refine (HTF.out _).mono ?_; rintro e W2 ⟨rfl, hB2⟩
        go_wp2
        go_ret
        exact ⟨ret_bool HR.out.symm, BW1.out.trans (hB2.mono BW1.out.size)⟩
      rw [ht2] at HTF HFR
      clear ht2
      go_wp2_with fail
      refine (HNF.out _).mono ?_; rintro e w' ⟨rfl, rfl⟩
      go_wp2_with fail
      refine (HTF.out _).mono ?_; rintro e W2 ⟨rfl, hB2⟩
      have T2 := Lib.hid (T.out.below hB2 T.out.lt)
      have BX2 := Lib.hid (BX.out.trans (hB2.mono BX.out.size))
      have BW2 := Lib.hid (BW1.out.trans (hB2.mono BW1.out.size))
      have Q2 := Lib.hid ((BX2.out.cell (p := ⟨w.heap.size, 1, none⟩) (Kit.lt_of_cell q1)).trans q1)
      clear hB2 T BX BW1 t0 t1 t2 t3 q1 s0 s1 s2 s3 HNF HTF
      obtain ⟨t0, t1, t2, t3⟩ := T2.out
      obtain ⟨I, hI⟩ : ∃ I, I = f.ix := ⟨_, rfl⟩
      rw [← hI] at t3 HFR
      clear hI
      by_cases hbad : I = true ∧ 3 < f.k
      · obtain ⟨rfl, h3⟩ := hbad
        have HR := Lib.hid (HNO.out (by rw [HFR.out, decide_eq_true h3]; rfl))
        go_wp2
        go_ret
        exact ⟨ret_bool HR.out.symm, BW2.out⟩
      have HFT := Lib.hid (show fieldR f = true by
        rw [HFR.out]
        cases I
        · rfl
        · rw [decide_eq_false (fun h => hbad ⟨rfl, h⟩)]; rfl)
      have hcc : I = false ∨ (I = true ∧ ¬ 3 < f.k) := by
        cases I
        · exact .inl rfl
        · exact .inr ⟨rfl, fun h => hbad ⟨rfl, h⟩⟩
      clear hbad HFR
      rcases hcc with rfl | ⟨rfl, h3⟩
      all_goals
        go_wp2_with fail
        go_loopw [5] (fun i wr2 => ∃ m : Nat, m ≤ k ∧ i = .int .i64 m ∧ Below W2.heap.size W2 wr2 ∧ ∀ j g, j < m → c.l[j]? = some g → g.nm ≠ f.nm) (fun i _ => k - (intOf i).toNat)
        case atStart => exact ⟨0, by omega, rfl, Below.refl _ _, fun j g h => by omega⟩
        case round =>
          obtain ⟨m, hm, rfl, hBM, hzm⟩ := hrel
          have BM := Lib.hid hBM
          have HM := Lib.hid hzm
          have q1 := (hBM.cell (p := ⟨w.heap.size, 1, none⟩) (Kit.lt_of_cell Q2.out)).trans Q2.out
          have y0 := (T2.out.below hBM T2.out.lt).1
          clear hBM hzm t0 t1 t2 t3
          by_cases hmk : m < k
          · have j2 : (m : Int) < (k : Int) := by omega
            obtain ⟨g, hg⟩ : ∃ g, c.l[m]? = some g := ⟨_, List.getElem?_eq_getElem (by omega)⟩
            obtain ⟨b', o', cc', he, hb', r0, -⟩ := HL.out.1.at hg
            cases he
            have hBA : Below w.heap.size w wr := BW2.out.trans (BM.out.mono BW2.out.size)
            have hbs : b < w.heap.size := by have := HL.out.2.1; omega
            have s0 := (hBA.cell (p := ⟨b, o + m * 4, none⟩) hbs).trans r0
            have j3 : (m : Int) < (c.l.length : Int) := by omega
            have HG := Lib.hid hg
            clear r0 hg hBA hbs
            by_cases hgn : g.nm = f.nm
            · have e1 : (g.nm.toList == f.nm.toList) = true := by rw [hgn]; simp
              have HR := Lib.hid (clsR_false (c := c) (fun h => by have := h.2.2.2 m k g f HG.out HF.out hgn; omega))
              clear hgn
              go_upto_region 12 with fail
              go_quiet (fail)
              go_wp2
              go_ret
              exact ⟨ret_bool HR.out.symm, Kit.bdN (BW2.out.trans (BM.out.mono BW2.out.size)) _⟩
            · have e1 : (g.nm.toList == f.nm.toList) = false := beq_eq_false_iff_ne.2 (fun h => hgn (Kit.bytes_inj h))
              have HNE := Lib.hid hgn
              clear hgn
              go_upto_region 12 with fail
              go_quiet (fail)
              go_wp2
              go_roundw
              case rel =>
                refine ⟨m + 1, by omega, by go_num, Kit.bdN BM.out _, fun j q hj hq => ?_⟩
                rcases Nat.lt_or_ge j m with h | h
                · exact HM.out j q h hq
                · obtain rfl : j = m := by omega
                  rw [HG.out] at hq; cases hq
                  exact HNE.out
              case measure => simp [intOf]; omega
          · have hmm : m = k := by omega
            subst hmm
            have j2 : ¬ (m : Int) < (m : Int) := by omega
            go_wp2
            go_roundw
            case rel =>
              refine ⟨m + 1, by omega, by go_num, (BW.out.trans (BX2.out.mono BW.out.size)).trans (BM.out.mono (BW.out.trans (BX2.out.mono BW.out.size)).size), fun j q hj hq => ?_, fun a d q r h1 h2 hq hr => ?_⟩
              · rcases Nat.lt_or_ge j m with h | h
                · exact HZ.out.1 j q h hq
                · obtain rfl : j = m := by omega
                  rw [HF.out] at hq; cases hq
                  exact HFT.out
              · rcases Nat.lt_or_ge d m with h | h
                · exact HZ.out.2 a d q r h1 h hq hr
                · obtain rfl : d = m := by omega
                  rw [HF.out] at hr; cases hr
                  exact HM.out a q h1 hq
            case measure => simp [intOf]; omega
    · have hkk : k = c.l.length := by omega
      subst hkk
      have j1 : ¬ (c.l.length : Int) < (c.l.length : Int) := by omega
      have HA := Lib.hid (show clsR c = true from (clsR_iff c).2 ⟨H8.out.1, H8.out.2, fun i f hf => HZ.out.1 i f (List.getElem?_eq_some_iff.1 hf).1 hf, fun i j f g hf hg he => by
        rcases Nat.lt_trichotomy i j with h | h | h
        · exact absurd he (HZ.out.2 i j f g h (List.getElem?_eq_some_iff.1 hg).1 hf hg)
        · exact h
        · exact absurd he.symm (HZ.out.2 j i g f h (List.getElem?_eq_some_iff.1 hf).1 hg hf)⟩)
      go_wp2
      go_ret
      exact ⟨ret_bool HA.out.symm, BB.out.trans (BW.out.mono BB.out.size)⟩
end Go.Proofs.YtmobnlofbopbeaaDoor.Cls
