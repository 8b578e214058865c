/- The document's own answer for values: which are right. -/
import Derived.Test.YtmobnlofbopbeaaDoorM2
import Derived.Deep.Cut
import Derived.Outline
namespace Go.Proofs.YtmobnlofbopbeaaDoor.Val
open Go.RowKit
open Kit (ret_int ret_bool)

attribute [local go_sem] Oper.semAt_some

theorem okT_of (s : ByteArray) : ∀ (n pos f : Nat), (s.data.toList.drop pos).length ≤ n → (s.data.toList.drop pos).length ≤ f → Lib.validD (s.data.toList.drop pos) = true → Lib.idxFuncFrom ctl true s f pos = -1 → ∃ cs, OkT (s.data.toList.drop pos) cs
  | 0, pos, _, h, _, _, _ => by
    have : s.data.toList.drop pos = [] := List.eq_nil_of_length_eq_zero (by omega)
    rw [this]
    exact ⟨[], .nil⟩
  | n + 1, pos, f, h, hf, hv, hi => by
    by_cases hl : s.data.toList.drop pos = []
    · rw [hl]; exact ⟨[], .nil⟩
    · have hpos : 0 < (s.data.toList.drop pos).length := List.length_pos_iff.2 hl
      obtain ⟨c, k, hd⟩ : ∃ c k, Lib.decodeL (s.data.toList.drop pos) = (c, k) := ⟨_, _, rfl⟩
      rw [Lib.validD_step _ hl, hd] at hv
      by_cases hok : c = 65533 ∧ k = 1
      · rw [if_pos hok] at hv; cases hv
      · rw [if_neg hok, List.drop_drop] at hv
        obtain ⟨g, rfl⟩ : ∃ g, f = g + 1 := ⟨f - 1, by omega⟩
        have hsz : pos < s.size := by rw [List.length_drop, data_len] at hpos; omega
        have hdec : Utf8.decode s pos = (c, k) := by rw [← Lib.decodeL_drop, hd]
        rw [Lib.idxFuncFrom, if_pos hsz, hdec] at hi
        have hc : ctl c = false := by
          cases hc : ctl c
          · rfl
          · rw [if_pos hc] at hi; omega
        rw [if_neg (by rw [hc]; simp)] at hi
        obtain ⟨hr, hk⟩ := rune_take hd hok hl hc
        have hkp := hr.pos
        rw [List.length_take] at hkp
        have hlk : (s.data.toList.drop (pos + k)).length + k ≤ (s.data.toList.drop pos).length := by rw [List.length_drop, List.length_drop] at *; omega
        obtain ⟨cs, h2⟩ := okT_of s n (pos + k) g (by omega) (by omega) hv hi
        refine ⟨c :: cs, ?_⟩
        rw [← List.take_append_drop k (s.data.toList.drop pos), List.drop_drop]
        exact .cons hr h2
theorem isText_rightT (s : ByteArray) : (isTextB s && decide (s.size ≤ 60)) = rightT s := by
  unfold rightT
  by_cases hs : s.size ≤ 60
  · rw [decide_eq_true hs, Bool.and_true, Bool.true_and]
    cases h : isTextB s
    · symm
      rw [Bool.eq_false_iff]
      intro h2
      rw [Bool.and_eq_true, Bool.not_eq_true'] at h2
      have hi : Lib.idxFuncFrom ctl true s s.size 0 = -1 := by
        have h3 := h2.2
        unfold hasCtl Lib.idxFunc at h3
        rw [decide_eq_false_iff_not] at h3
        rcases Lib.idxFuncFrom_range ctl true s s.size 0 with h | h
        · exact h
        · omega
      obtain ⟨cs, h4⟩ := okT_of s s.size 0 s.size (by rw [List.drop_zero, data_len]; exact Nat.le_refl _) (by rw [List.drop_zero, data_len]; exact Nat.le_refl _) (by rw [List.drop_zero]; exact h2.1) hi
      rw [(isTextB_ok s).2 ⟨cs, by simpa using h4⟩] at h
      cases h
    · obtain ⟨cs, h2⟩ := (isTextB_ok s).1 h
      have h3 := h2.noCtl
      rw [bs_data] at h3
      rw [h2.valid, h3]; rfl
  · rw [decide_eq_false hs, Bool.and_false, Bool.false_and, Bool.false_and]
end Go.Proofs.YtmobnlofbopbeaaDoor.Val
