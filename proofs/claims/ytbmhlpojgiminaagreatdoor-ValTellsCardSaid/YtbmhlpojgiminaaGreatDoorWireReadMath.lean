/- Plain mathematics of reading a number: it names nothing of the program. -/
import Derived.Test.YtbmhlpojgiminaaGreatDoorWireMath
import Derived.Laws.BitsAllLaws
namespace Go.Proofs.YtbmhlpojgiminaaGreatDoor.Wire

/-- One more group. -/
def nu (u g k : Nat) : Nat := u ||| (g * 2 ^ (7 * k) % 2 ^ 64)
/-- A round: it goes on, or it has an answer: none, or the number and the last group's place. -/
def stepN (st : Nat × Nat) : Option UInt8 → (Nat × Nat) ⊕ (Option (Nat × Nat))
  | none => .inr none
  | some b =>
    if 64 ≤ 7 * st.2 then .inr none
    else if nu st.1 (b.toNat % 128) st.2 / 2 ^ (7 * st.2) ≠ b.toNat % 128 then .inr none
    else if b.toNat = 0 ∧ 0 < st.2 then .inr none
    else if b.toNat < 128 then .inr (some (nu st.1 (b.toNat % 128) st.2, st.2))
    else .inl (nu st.1 (b.toNat % 128) st.2, st.2 + 1)
def scan : List UInt8 → Nat × Nat → Option (Nat × Nat)
  | [], _ => none
  | b :: r, st => match stepN st (some b) with
    | .inr o => o
    | .inl st' => scan r st'
def goesF : Nat × Nat → List (Option UInt8) → Option (Nat × Nat)
  | st, [] => some st
  | st, x :: r => match stepN st x with
    | .inr _ => none
    | .inl st' => goesF st' r
/-- The number that bytes begin with, and how many bytes it has. -/
def readN (l : List UInt8) : Option (Int × Nat) := (scan l (0, 0)).map fun r => (unfoldN r.1, r.2 + 1)

theorem goesF_snoc (p : List (Option UInt8)) (x : Option UInt8) : ∀ st st', goesF st p = some st' → ∀ st'', stepN st' x = .inl st'' → goesF st (p ++ [x]) = some st'' := by
  induction p with
  | nil =>
    intro st st' h st'' h2
    simp only [goesF, Option.some.injEq] at h
    subst h
    simp [goesF, h2]
  | cons y p ih =>
    intro st st' h st'' h2
    simp only [goesF, List.cons_append] at h ⊢
    cases hs : stepN st y with
    | inr o => rw [hs] at h; cases h
    | inl s1 => rw [hs] at h; exact ih s1 st' h st'' h2
theorem goesF_comes (l : List UInt8) : ∀ st, goesF st (l.map some ++ [none]) = none := by
  induction l with
  | nil => intro st; rfl
  | cons b l ih =>
    intro st
    simp only [List.map_cons, List.cons_append, goesF]
    split
    · rfl
    · exact ih _
theorem goes_scan (p : List (Option UInt8)) (x : Option UInt8) (o : Option (Nat × Nat)) : ∀ (l : List UInt8) st st', goesF st p = some st' → p ++ [x] <+: l.map some ++ [none] → stepN st' x = .inr o → scan l st = o := by
  induction p with
  | nil =>
    intro l st st' h hp hs
    simp only [goesF, Option.some.injEq] at h
    subst h
    cases l with
    | nil =>
      obtain ⟨r, hr⟩ := hp
      simp at hr
      obtain ⟨rfl, _⟩ := hr
      simp [stepN] at hs
      subst hs; rfl
    | cons b l =>
      obtain ⟨r, hr⟩ := hp
      simp at hr
      obtain ⟨rfl, _⟩ := hr
      simp [scan, hs]
  | cons y p ih =>
    intro l st st' h hp hs
    obtain ⟨r, hr⟩ := hp
    cases l with
    | nil => simp at hr
    | cons b l =>
      simp at hr
      obtain ⟨rfl, hr⟩ := hr
      simp only [goesF] at h
      cases hb : stepN st (some b) with
      | inr o => rw [hb] at h; cases h
      | inl s1 =>
        rw [hb] at h
        simp only [scan, hb]
        exact ih l s1 st' h ⟨r, by simpa using hr⟩ hs
theorem nu_lt {u g k : Nat} (hu : u < 2 ^ 64) : nu u g k < 2 ^ 64 := Nat.or_lt_two_pow hu (Nat.mod_lt _ (by decide))
theorem stepN_inl {st st' : Nat × Nat} {x : Option UInt8} (h : stepN st x = .inl st') (hu : st.1 < 2 ^ 64) : st'.1 < 2 ^ 64 ∧ st'.2 = st.2 + 1 ∧ st.2 ≤ 9 := by
  cases x with
  | none => simp [stepN] at h
  | some b =>
    dsimp only [stepN] at h
    by_cases c1 : 64 ≤ 7 * st.2
    · rw [if_pos c1] at h; cases h
    · rw [if_neg c1] at h
      by_cases c2 : nu st.1 (b.toNat % 128) st.2 / 2 ^ (7 * st.2) ≠ b.toNat % 128
      · rw [if_pos c2] at h; cases h
      · rw [if_neg c2] at h
        by_cases c3 : b.toNat = 0 ∧ 0 < st.2
        · rw [if_pos c3] at h; cases h
        · rw [if_neg c3] at h
          by_cases c4 : b.toNat < 128
          · rw [if_pos c4] at h; cases h
          · rw [if_neg c4] at h
            cases h
            exact ⟨nu_lt hu, rfl, by omega⟩
theorem stepN_next {st st' : Nat × Nat} {x : Option UInt8} (h : stepN st x = .inl st') : st'.2 = st.2 + 1 := by
  cases x with
  | none => simp [stepN] at h
  | some b =>
    dsimp only [stepN] at h
    by_cases c1 : 64 ≤ 7 * st.2
    · rw [if_pos c1] at h; cases h
    · rw [if_neg c1] at h
      by_cases c2 : nu st.1 (b.toNat % 128) st.2 / 2 ^ (7 * st.2) ≠ b.toNat % 128
      · rw [if_pos c2] at h; cases h
      · rw [if_neg c2] at h
        by_cases c3 : b.toNat = 0 ∧ 0 < st.2
        · rw [if_pos c3] at h; cases h
        · rw [if_neg c3] at h
          by_cases c4 : b.toNat < 128
          · rw [if_pos c4] at h; cases h
          · rw [if_neg c4] at h; cases h; rfl
theorem stepN_z {st : Nat × Nat} {x : Option UInt8} {v z : Nat} (h : stepN st x = .inr (some (v, z))) : z = st.2 := by
  cases x with
  | none => simp [stepN] at h
  | some b =>
    dsimp only [stepN] at h
    by_cases c1 : 64 ≤ 7 * st.2
    · rw [if_pos c1] at h; cases h
    · rw [if_neg c1] at h
      by_cases c2 : nu st.1 (b.toNat % 128) st.2 / 2 ^ (7 * st.2) ≠ b.toNat % 128
      · rw [if_pos c2] at h; cases h
      · rw [if_neg c2] at h
        by_cases c3 : b.toNat = 0 ∧ 0 < st.2
        · rw [if_pos c3] at h; cases h
        · rw [if_neg c3] at h
          by_cases c4 : b.toNat < 128
          · rw [if_pos c4] at h; cases h; rfl
          · rw [if_neg c4] at h; cases h
theorem stepN_v {st : Nat × Nat} {x : Option UInt8} {v z : Nat} (h : stepN st x = .inr (some (v, z))) (hu : st.1 < 2 ^ 64) : v < 18446744073709551616 := by
  cases x with
  | none => simp [stepN] at h
  | some b =>
    dsimp only [stepN] at h
    by_cases c1 : 64 ≤ 7 * st.2
    · rw [if_pos c1] at h; cases h
    · rw [if_neg c1] at h
      by_cases c2 : nu st.1 (b.toNat % 128) st.2 / 2 ^ (7 * st.2) ≠ b.toNat % 128
      · rw [if_pos c2] at h; cases h
      · rw [if_neg c2] at h
        by_cases c3 : b.toNat = 0 ∧ 0 < st.2
        · rw [if_pos c3] at h; cases h
        · rw [if_neg c3] at h
          by_cases c4 : b.toNat < 128
          · rw [if_pos c4] at h; cases h; exact nu_lt hu
          · rw [if_neg c4] at h; cases h
theorem goesF_bound (p : List (Option UInt8)) : ∀ st st', goesF st p = some st' → st.1 < 2 ^ 64 → st.2 ≤ 10 → st'.1 < 2 ^ 64 ∧ st'.2 ≤ 10 := by
  induction p with
  | nil =>
    intro st st' h h1 h2
    simp only [goesF, Option.some.injEq] at h
    subst h
    exact ⟨h1, h2⟩
  | cons y p ih =>
    intro st st' h h1 h2
    simp only [goesF] at h
    cases hs : stepN st y with
    | inr o => rw [hs] at h; cases h
    | inl s1 =>
      rw [hs] at h
      obtain ⟨a, b, c⟩ := stepN_inl hs h1
      exact ih s1 st' h a (by omega)

theorem bytesOf_cons (g : Fin 128) {l : List (Fin 128)} (h : l ≠ []) : bytesOf (g :: l) = ((g.val : Int) + 128) :: bytesOf l := by
  unfold bytesOf
  rw [List.dropLast_cons_of_ne_nil h, List.getLast?_cons_of_ne_nil h]
  simp [hi]
theorem nu_add {u g k : Nat} (hu : u < 2 ^ (7 * k)) (hg : u + g * 2 ^ (7 * k) < 2 ^ 64) : nu u g k = u + g * 2 ^ (7 * k) := by
  unfold nu
  rw [Nat.mod_eq_of_lt (by omega), Nat.or_comm, nat_join (7 * k) (g * 2 ^ (7 * k)) u (Nat.mul_mod_left _ _) hu, Nat.add_comm]
theorem nu_div {u g k : Nat} (hu : u < 2 ^ (7 * k)) (hg : u + g * 2 ^ (7 * k) < 2 ^ 64) : nu u g k / 2 ^ (7 * k) = g := by
  rw [nu_add hu hg, Nat.add_mul_div_right _ _ (Nat.two_pow_pos _), Nat.div_eq_of_lt hu, Nat.zero_add]
theorem small_k {v k u : Nat} (hk : 0 < k → 0 < v) (h : u + v * 2 ^ (7 * k) < 2 ^ 64) : ¬ 64 ≤ 7 * k := by
  intro h64
  have hv := hk (by omega)
  have h1 : 2 ^ 64 ≤ 2 ^ (7 * k) := Nat.pow_le_pow_right (by decide) h64
  have h2 : 1 * 2 ^ (7 * k) ≤ v * 2 ^ (7 * k) := Nat.mul_le_mul_right _ hv
  omega
theorem scan_grp_one (v u k : Nat) (rest : List UInt8) (hv : v < 128) (hu : u < 2 ^ (7 * k)) (hs : u + v * 2 ^ (7 * k) < 2 ^ 64) (hk : 0 < k → 0 < v) (j : Nat) :
    scan ((bytesOf (grp j v)).map (fun x => UInt8.ofNat x.toNat) ++ rest) (u, k) = some (u + v * 2 ^ (7 * k), k + (grp j v).length - 1) := by
  rw [grp_last (by omega)]
  have hb : bytesOf [(⟨v % 128, Nat.mod_lt _ (by decide)⟩ : Fin 128)] = [(v : Int)] := by simp [bytesOf, hi]; omega
  rw [hb]
  have hm : (UInt8.ofNat v).toNat = v := by rw [UInt8.toNat_ofNat']; omega
  have hstep : stepN (u, k) (some (UInt8.ofNat v)) = .inr (some (u + v * 2 ^ (7 * k), k)) := by
    unfold stepN
    simp only [hm]
    rw [Nat.mod_eq_of_lt hv, if_neg (small_k hk hs), nu_div hu hs, if_neg (by simp), if_neg (by omega), if_pos hv, nu_add hu hs]
  simp [scan, hstep]

/-- The bytes of the groups of v, read on from u. -/
theorem scan_grp : ∀ (j v u k : Nat) (rest : List UInt8), v < 128 ^ (j + 1) → u < 2 ^ (7 * k) → u + v * 2 ^ (7 * k) < 2 ^ 64 → (0 < k → 0 < v) →
    scan ((bytesOf (grp j v)).map (fun x => UInt8.ofNat x.toNat) ++ rest) (u, k) = some (u + v * 2 ^ (7 * k), k + (grp j v).length - 1) := by
  intro j
  induction j with
  | zero =>
    intro v u k rest hv hu hs hk
    exact scan_grp_one v u k rest (by simpa using hv) hu hs hk 0
  | succ j ih =>
    intro v u k rest hv hu hs hk
    by_cases hz : v / 128 = 0
    · exact scan_grp_one v u k rest (by omega) hu hs hk (j + 1)
    · have hmul : v * 2 ^ (7 * k) = v % 128 * 2 ^ (7 * k) + v / 128 * (128 * 2 ^ (7 * k)) := by
        rw [← Nat.mul_assoc, ← Nat.add_mul]
        congr 1
        omega
      have hpow : 2 ^ (7 * (k + 1)) = 128 * 2 ^ (7 * k) := by
        rw [show 7 * (k + 1) = 7 * k + 7 by omega, Nat.pow_add, Nat.mul_comm]
      have hg : u + v % 128 * 2 ^ (7 * k) < 2 ^ 64 := by omega
      have hm : (UInt8.ofNat (v % 128 + 128)).toNat = v % 128 + 128 := by rw [UInt8.toNat_ofNat']; omega
      have hm2 : (v % 128 + 128) % 128 = v % 128 := by omega
      have hstep : stepN (u, k) (some (UInt8.ofNat (v % 128 + 128))) = .inl (u + v % 128 * 2 ^ (7 * k), k + 1) := by
        unfold stepN
        simp only [hm, hm2]
        rw [if_neg (small_k hk hs), nu_div hu hg, if_neg (by simp), if_neg (by omega), if_neg (by omega), nu_add hu hg]
      rw [grp_more hz, bytesOf_cons _ (grp_ne _ _)]
      have e1 : UInt8.ofNat ((((⟨v % 128, Nat.mod_lt _ (by decide)⟩ : Fin 128).val : Int) + 128).toNat) = UInt8.ofNat (v % 128 + 128) := by congr 1
      rw [List.map_cons, List.cons_append, e1]
      simp only [scan, hstep]
      have hvp : v / 128 < 128 ^ (j + 1) := by
        rw [Nat.div_lt_iff_lt_mul (by decide)]; rw [Nat.pow_succ] at hv; exact hv
      have hu2 : u + v % 128 * 2 ^ (7 * k) < 2 ^ (7 * (k + 1)) := by
        have h7 : v % 128 * 2 ^ (7 * k) ≤ 127 * 2 ^ (7 * k) := Nat.mul_le_mul_right _ (by omega)
        omega
      rw [ih (v / 128) _ (k + 1) rest hvp hu2 (by rw [hpow]; omega) (fun _ => by omega)]
      rw [hpow]
      simp only [Option.some.injEq, Prod.mk.injEq, List.length_cons]
      refine ⟨by omega, by omega⟩

theorem numB_length (n : Int) : (numB n).length = (grp 9 (foldN n)).length := by simp [numB, bytesOf_len]
theorem grp_pos (k u : Nat) : 0 < (grp k u).length := List.length_pos_iff.2 (grp_ne k u)
/-- A number is read from its bytes, whatever stands behind them. -/
theorem readN_numB (n : Int) (h1 : -9223372036854775808 ≤ n) (h2 : n ≤ 9223372036854775807) (rest : List UInt8) : readN (numB n ++ rest) = some (n, (numB n).length) := by
  have hlt := foldN_lt h1 h2
  have h := scan_grp 9 (foldN n) 0 0 rest (by omega) (by decide) (by omega) (by omega)
  have hp := grp_pos 9 (foldN n)
  unfold readN
  have e : numB n = (bytesOf (grp 9 (foldN n))).map (fun x => UInt8.ofNat x.toNat) := rfl
  rw [e, h]
  simp only [Nat.mul_zero, Nat.pow_zero, Nat.mul_one, Nat.zero_add, Option.map_some, unfold_fold, Option.some.injEq, Prod.mk.injEq, true_and, List.length_map, bytesOf_len]
  omega
theorem scan_len : ∀ (l : List UInt8) (st : Nat × Nat) (v z : Nat), scan l st = some (v, z) → z + 1 ≤ st.2 + l.length
  | [], _, _, _, h => by simp [scan] at h
  | b :: l, st, v, z, h => by
    unfold scan at h
    cases hs : stepN st (some b) with
    | inr o =>
      rw [hs] at h
      simp only at h
      subst h
      have := stepN_z hs
      simp only [List.length_cons]; omega
    | inl s1 =>
      rw [hs] at h
      have h2 := scan_len l s1 v z h
      have h3 : s1.2 = st.2 + 1 := stepN_next hs
      simp only [List.length_cons]; omega
theorem readN_len {l : List UInt8} {n : Int} {k : Nat} (h : readN l = some (n, k)) : k ≤ l.length := by
  unfold readN at h
  cases hs : scan l (0, 0) with
  | none => rw [hs] at h; cases h
  | some r =>
    rw [hs] at h
    simp only [Option.map_some, Option.some.injEq, Prod.mk.injEq] at h
    have := scan_len l (0, 0) r.1 r.2 hs
    simp only at this
    omega
theorem scan_v : ∀ (l : List UInt8) (st : Nat × Nat) (v z : Nat), scan l st = some (v, z) → st.1 < 2 ^ 64 → v < 18446744073709551616
  | [], _, _, _, h, _ => by simp [scan] at h
  | b :: l, st, v, z, h, hu => by
    unfold scan at h
    cases hs : stepN st (some b) with
    | inr o =>
      rw [hs] at h
      simp only at h
      subst h
      exact stepN_v hs hu
    | inl s1 =>
      rw [hs] at h
      exact scan_v l s1 v z h (stepN_inl hs hu).1
theorem readN_range {l : List UInt8} {n : Int} {k : Nat} (h : readN l = some (n, k)) : -9223372036854775808 ≤ n ∧ n ≤ 9223372036854775807 := by
  unfold readN at h
  cases hs : scan l (0, 0) with
  | none => rw [hs] at h; cases h
  | some r =>
    rw [hs] at h
    simp only [Option.map_some, Option.some.injEq, Prod.mk.injEq] at h
    have := scan_v l (0, 0) r.1 r.2 hs (by decide)
    obtain ⟨rfl, _⟩ := h
    unfold unfoldN
    split <;> omega
theorem readN_nil : readN [] = none := rfl
end Go.Proofs.YtbmhlpojgiminaaGreatDoor.Wire
