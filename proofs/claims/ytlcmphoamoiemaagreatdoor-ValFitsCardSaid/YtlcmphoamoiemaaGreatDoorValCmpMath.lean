/- Layer 3: Compare is one order. -/
import Derived.Test.YtlcmphoamoiemaaGreatDoorValCmp4
namespace Go.Proofs.YtlcmphoamoiemaaGreatDoor.Val
open Go.RowKit

theorem cmpI_range (a b : Int) : cmpI a b = -1 ∨ cmpI a b = 0 ∨ cmpI a b = 1 := by unfold cmpI; split; exact .inl rfl; split; exact .inr (.inr rfl); exact .inr (.inl rfl)
theorem cmpI_neg (a b : Int) : cmpI a b = -cmpI b a := by
  unfold cmpI
  repeat' split
  all_goals omega
theorem cmpI_zero {a b : Int} : cmpI a b = 0 ↔ a = b := by
  unfold cmpI
  repeat' split
  all_goals omega
theorem cmpI_le {a b c : Int} (h1 : cmpI a b ≤ 0) (h2 : cmpI b c ≤ 0) : cmpI a c ≤ 0 := by
  unfold cmpI at *
  repeat' split at h1
  all_goals (repeat' split at h2)
  all_goals (repeat' split)
  all_goals omega

theorem bless_irrefl (a : List UInt8) : Op.bytesLess a a = false := by rw [bytesLess_eq]; simp
theorem cmpS_eq (a b : ByteArray) : cmpS a b = if a.data.toList < b.data.toList then -1 else if a.data.toList = b.data.toList then 0 else 1 := by
  unfold cmpS
  rw [bytesLess_eq, ByteArray.toList_eq, ByteArray.toList_eq]
  simp
theorem lt_irrefl' (a : List UInt8) : ¬ a < a := List.lt_irrefl a
theorem lt_trans' {a b c : List UInt8} (h1 : a < b) (h2 : b < c) : a < c := List.lt_trans h1 h2
theorem lt_asymm' {a b : List UInt8} (h1 : a < b) : ¬ b < a := fun h => lt_irrefl' a (lt_trans' h1 h)
theorem lt_tri (a b : List UInt8) : a < b ∨ a = b ∨ b < a := by
  rcases Decidable.em (a < b) with h | h
  · exact .inl h
  · rcases Decidable.em (b < a) with h2 | h2
    · exact .inr (.inr h2)
    · exact .inr (.inl (List.le_antisymm (by simpa using h2) (by simpa using h)))
theorem cmpS_range (a b : ByteArray) : cmpS a b = -1 ∨ cmpS a b = 0 ∨ cmpS a b = 1 := by
  rw [cmpS_eq]; split; exact .inl rfl; split; exact .inr (.inl rfl); exact .inr (.inr rfl)
theorem cmpS_neg (a b : ByteArray) : cmpS a b = -cmpS b a := by
  rw [cmpS_eq, cmpS_eq]
  rcases lt_tri a.data.toList b.data.toList with h | h | h
  · rw [if_pos h, if_neg (lt_asymm' h), if_neg (fun e => lt_irrefl' _ (e ▸ h))]
  · rw [if_neg (fun e => lt_irrefl' _ (h ▸ e)), if_pos h, if_neg (fun e => lt_irrefl' _ (h ▸ e)), if_pos h.symm]; rfl
  · rw [if_neg (lt_asymm' h), if_neg (fun e => lt_irrefl' _ (e ▸ h)), if_pos h]; rfl
theorem cmpS_zero {a b : ByteArray} : cmpS a b = 0 ↔ a = b := by
  rw [cmpS_eq]
  rcases lt_tri a.data.toList b.data.toList with h | h | h
  · rw [if_pos h]
    constructor
    · intro h; cases h
    · intro e; rw [e] at h; exact absurd h (lt_irrefl' _)
  · rw [if_neg (fun e => lt_irrefl' _ (h ▸ e)), if_pos h]
    exact ⟨fun _ => ByteArray.ext (Array.toList_inj.1 h), fun _ => rfl⟩
  · rw [if_neg (lt_asymm' h), if_neg (fun e => lt_irrefl' _ (e ▸ h))]
    constructor
    · intro h; cases h
    · intro e; rw [e] at h; exact absurd h (lt_irrefl' _)
theorem cmpS_le {a b c : ByteArray} (h1 : cmpS a b ≤ 0) (h2 : cmpS b c ≤ 0) : cmpS a c ≤ 0 := by
  rw [cmpS_eq] at *
  have k : ∀ x y : List UInt8, (if x < y then (-1 : Int) else if x = y then 0 else 1) ≤ 0 → x < y ∨ x = y := fun x y h => by
    by_cases p : x < y
    · exact .inl p
    · by_cases q : x = y
      · exact .inr q
      · rw [if_neg p, if_neg q] at h; omega
  rcases k _ _ h1 with h | h <;> rcases k _ _ h2 with g | g
  · rw [if_pos (lt_trans' h g)]; decide
  · rw [← g, if_pos h]; decide
  · rw [h, if_pos g]; decide
  · rw [h, g, if_neg (lt_irrefl' _), if_pos rfl]; decide

/-- An order of three values. -/
def sgn (x : Int) : Prop := x = -1 ∨ x = 0 ∨ x = 1

mutual
theorem cmpV_range : ∀ x y : Vl, sgn (cmpV x y)
  | .mk k n s l, .mk k' n' s' l' => by
    have h1 := cmpI_range k k'
    have h2 := cmpI_range n n'
    have h3 := cmpS_range s s'
    have h4 := cmpL_range l l'
    rw [cmpV]
    unfold sgn at *
    split
    · exact h1
    · split
      · exact h2
      · split
        · exact h3
        · exact h4
theorem cmpL_range : ∀ l m : List Vl, sgn (cmpL l m)
  | [], [] => by rw [cmpL]; exact .inr (.inl rfl)
  | [], _ :: _ => by rw [cmpL]; exact .inl rfl
  | _ :: _, [] => by rw [cmpL]; exact .inr (.inr rfl)
  | x :: r, y :: q => by
    have h1 := cmpV_range x y
    have h2 := cmpL_range r q
    rw [cmpL]
    split
    · exact h1
    · exact h2
end
mutual
theorem cmpV_neg : ∀ x y : Vl, cmpV x y = -cmpV y x
  | .mk k n s l, .mk k' n' s' l' => by
    have h1 := cmpI_neg k k'
    have h2 := cmpI_neg n n'
    have h3 := cmpS_neg s s'
    have h4 := cmpL_neg l l'
    by_cases a : cmpI k k' = 0
    · by_cases b : cmpI n n' = 0
      · by_cases c : cmpS s s' = 0
        · rw [cmpV_l (x := .mk k n s l) (y := .mk k' n' s' l') a b c, cmpV_l (x := .mk k' n' s' l') (y := .mk k n s l) (show cmpI k' k = 0 by omega) (show cmpI n' n = 0 by omega) (show cmpS s' s = 0 by omega)]
          exact h4
        · rw [cmpV_s (x := .mk k n s l) (y := .mk k' n' s' l') a b c, cmpV_s (x := .mk k' n' s' l') (y := .mk k n s l) (show cmpI k' k = 0 by omega) (show cmpI n' n = 0 by omega) (show cmpS s' s ≠ 0 by omega)]
          exact h3
      · rw [cmpV_n (x := .mk k n s l) (y := .mk k' n' s' l') a b, cmpV_n (x := .mk k' n' s' l') (y := .mk k n s l) (show cmpI k' k = 0 by omega) (show cmpI n' n ≠ 0 by omega)]
        exact h2
    · rw [cmpV_k (x := .mk k n s l) (y := .mk k' n' s' l') a, cmpV_k (x := .mk k' n' s' l') (y := .mk k n s l) (show cmpI k' k ≠ 0 by omega)]
      exact h1
theorem cmpL_neg : ∀ l m : List Vl, cmpL l m = -cmpL m l
  | [], [] => by rw [cmpL]; decide
  | [], _ :: _ => by rw [cmpL, cmpL]
  | _ :: _, [] => by rw [cmpL, cmpL]; decide
  | x :: r, y :: q => by
    have h1 := cmpV_neg x y
    have h2 := cmpL_neg r q
    rw [cmpL, cmpL]
    by_cases a : cmpV y x = 0
    · rw [if_neg (by omega), if_neg (by omega)]; exact h2
    · rw [if_pos (by omega), if_pos (by omega)]; exact h1
end
mutual
theorem cmpV_zero : ∀ x y : Vl, cmpV x y = 0 → x = y
  | .mk k n s l, .mk k' n' s' l', h => by
    rw [cmpV] at h
    by_cases a : cmpI k k' = 0
    · rw [if_neg (by omega)] at h
      by_cases b : cmpI n n' = 0
      · rw [if_neg (by omega)] at h
        by_cases c : cmpS s s' = 0
        · rw [if_neg (by omega)] at h
          rw [cmpI_zero.1 a, cmpI_zero.1 b, cmpS_zero.1 c, cmpL_zero l l' h]
        · rw [if_pos (by omega)] at h; exact absurd h c
      · rw [if_pos (by omega)] at h; exact absurd h b
    · rw [if_pos (by omega)] at h; exact absurd h a
theorem cmpL_zero : ∀ l m : List Vl, cmpL l m = 0 → l = m
  | [], [], _ => rfl
  | [], _ :: _, h => by rw [cmpL] at h; omega
  | _ :: _, [], h => by rw [cmpL] at h; omega
  | x :: r, y :: q, h => by
    rw [cmpL] at h
    by_cases a : cmpV x y = 0
    · rw [if_neg (by omega)] at h
      rw [cmpV_zero x y a, cmpL_zero r q h]
    · rw [if_pos (by omega)] at h; exact absurd h a
end
theorem cmpV_self (x : Vl) : cmpV x x = 0 := by have := cmpV_neg x x; omega
theorem sameV_iff {x y : Vl} : sameV x y = true ↔ x = y := by
  unfold sameV
  rw [beq_iff_eq]
  exact ⟨cmpV_zero x y, fun h => by rw [h]; exact cmpV_self y⟩
mutual
theorem cmpV_le : ∀ x y z : Vl, cmpV x y ≤ 0 → cmpV y z ≤ 0 → cmpV x z ≤ 0
  | .mk k n s l, .mk k' n' s' l', .mk k'' n'' s'' l'', h1, h2 => by
    have r1 := cmpI_range k k'; have r2 := cmpI_range k' k''; have r3 := cmpI_range k k''
    have n1 := cmpI_range n n'; have n2 := cmpI_range n' n''; have n3 := cmpI_range n n''
    have s1 := cmpS_range s s'; have s2 := cmpS_range s' s''; have s3 := cmpS_range s s''
    have tk := @cmpI_le k k' k''
    have tn := @cmpI_le n n' n''
    have ts := @cmpS_le s s' s''
    have tl := cmpL_le l l' l''
    have zk : cmpI k k'' = 0 → cmpI k k' ≤ 0 → cmpI k' k'' ≤ 0 → cmpI k k' = 0 ∧ cmpI k' k'' = 0 := fun a b c => by
      have e := cmpI_zero.1 a; subst e
      have := cmpI_neg k k'; omega
    have zn : cmpI n n'' = 0 → cmpI n n' ≤ 0 → cmpI n' n'' ≤ 0 → cmpI n n' = 0 ∧ cmpI n' n'' = 0 := fun a b c => by
      have e := cmpI_zero.1 a; subst e
      have := cmpI_neg n n'; omega
    have zs : cmpS s s'' = 0 → cmpS s s' ≤ 0 → cmpS s' s'' ≤ 0 → cmpS s s' = 0 ∧ cmpS s' s'' = 0 := fun a b c => by
      have e := cmpS_zero.1 a; subst e
      have := cmpS_neg s s'; omega
    rw [cmpV] at h1 h2 ⊢
    have kk : cmpI k k' ≤ 0 := by
      by_cases a : cmpI k k' = 0
      · omega
      · rw [if_pos (by omega)] at h1; exact h1
    have kk2 : cmpI k' k'' ≤ 0 := by
      by_cases a : cmpI k' k'' = 0
      · omega
      · rw [if_pos (by omega)] at h2; exact h2
    by_cases a : cmpI k k'' = 0
    · have ⟨a1, a2⟩ := zk a kk kk2
      rw [if_neg (by omega)] at h1 h2 ⊢
      have nn : cmpI n n' ≤ 0 := by
        by_cases b : cmpI n n' = 0
        · omega
        · rw [if_pos (by omega)] at h1; exact h1
      have nn2 : cmpI n' n'' ≤ 0 := by
        by_cases b : cmpI n' n'' = 0
        · omega
        · rw [if_pos (by omega)] at h2; exact h2
      by_cases b : cmpI n n'' = 0
      · have ⟨b1, b2⟩ := zn b nn nn2
        rw [if_neg (by omega)] at h1 h2 ⊢
        have ss : cmpS s s' ≤ 0 := by
          by_cases c : cmpS s s' = 0
          · omega
          · rw [if_pos (by omega)] at h1; exact h1
        have ss2 : cmpS s' s'' ≤ 0 := by
          by_cases c : cmpS s' s'' = 0
          · omega
          · rw [if_pos (by omega)] at h2; exact h2
        by_cases c : cmpS s s'' = 0
        · have ⟨c1, c2⟩ := zs c ss ss2
          rw [if_neg (by omega)] at h1 h2 ⊢
          exact tl h1 h2
        · rw [if_pos (by omega)]; exact ts ss ss2
      · rw [if_pos (by omega)]; exact tn nn nn2
    · rw [if_pos (by omega)]; exact tk kk kk2
theorem cmpL_le : ∀ l m p : List Vl, cmpL l m ≤ 0 → cmpL m p ≤ 0 → cmpL l p ≤ 0
  | [], _, [], _, _ => by rw [cmpL]; decide
  | [], _, _ :: _, _, _ => by rw [cmpL]; decide
  | _ :: _, [], _, h, _ => by rw [cmpL] at h; omega
  | _ :: _, _ :: _, [], _, h => by rw [cmpL] at h; omega
  | x :: r, y :: q, z :: t, h1, h2 => by
    have a1 := cmpV_range x y; have a2 := cmpV_range y z; have a3 := cmpV_range x z
    have tv := cmpV_le x y z
    have tl := cmpL_le r q t
    have zv : cmpV x z = 0 → cmpV x y ≤ 0 → cmpV y z ≤ 0 → cmpV x y = 0 ∧ cmpV y z = 0 := fun a b c => by
      have e := cmpV_zero x z a; subst e
      have := cmpV_neg x y; omega
    rw [cmpL] at h1 h2 ⊢
    have vv : cmpV x y ≤ 0 := by
      by_cases b : cmpV x y = 0
      · omega
      · rw [if_pos (by omega)] at h1; exact h1
    have vv2 : cmpV y z ≤ 0 := by
      by_cases b : cmpV y z = 0
      · omega
      · rw [if_pos (by omega)] at h2; exact h2
    by_cases b : cmpV x z = 0
    · have ⟨b1, b2⟩ := zv b vv vv2
      rw [if_neg (by omega)] at h1 h2 ⊢
      exact tl h1 h2
    · rw [if_pos (by omega)]; exact tv vv vv2
end
end Go.Proofs.YtlcmphoamoiemaaGreatDoor.Val
