/- Layer 3: how values are written, and that they are read back: plain mathematics. -/
import Derived.Test.YtbmhlpojgiminaaGreatDoorValRead
import Derived.Test.YtbmhlpojgiminaaGreatDoorMK
import Derived.Test.YtbmhlpojgiminaaGreatDoorMD
import Derived.Lib.ItoaNum
import Derived.Lib.MapLaws
import Derived.Lib.ReplaceLaws
import Derived.Lib.AppendIntMem
namespace Go.Proofs.YtbmhlpojgiminaaGreatDoor.Val
open Go.RowKit

/-- A byte of a text, written. -/
def escB (b : UInt8) : List UInt8 := if b = 34 ∨ b = 92 then [92, b] else [b]
def escL (l : List UInt8) : List UInt8 := l.flatMap escB
/-- A value that is no list, written. -/
def wrF (x : Vl) : List UInt8 :=
  if x.k = 1 then Lib.itoa x.n else if x.k = 2 then 34 :: (escL x.s.data.toList ++ [34]) else if x.k = 3 then 64 :: Lib.itoa x.n else if x.k = 4 then 126 :: Lib.itoa x.n else [45]
/-- A value, written. -/
def wrV (x : Vl) : List UInt8 := if x.k = 5 then 91 :: (Lib.join (x.l.map wrF) [32] ++ [93]) else wrF x

/-- One byte replaced by a text. -/
def rep1 (c : UInt8) (new : List UInt8) (b : UInt8) : List UInt8 := if b = c then new else [b]
theorem index_cons (b c : UInt8) (l : List UInt8) : Lib.index (b :: l) [c] = if c = b then 0 else if Lib.index l [c] == -1 then -1 else Lib.index l [c] + 1 := by
  rw [Lib.index]
  simp [List.isPrefixOf]
theorem replaceK_one (c : UInt8) (new : List UInt8) : ∀ l : List UInt8, Lib.replaceK [c] new (l.count c) l = l.flatMap (rep1 c new)
  | [] => by simp [Lib.replaceK]
  | b :: r => by
    have ih := replaceK_one c new r
    by_cases h : b = c
    · subst h
      rw [List.count_cons_self, Lib.replaceK_hit [b] new (r.count b) (b :: r) 0 (by rw [index_cons, if_pos rfl]; rfl)]
      rw [show (b :: r).drop (0 + [b].length) = r from rfl, ih, List.flatMap_cons]
      simp [rep1]
    · rw [List.count_cons_of_ne (by simpa using h), List.flatMap_cons, ← ih, show rep1 c new b = [b] by unfold rep1; rw [if_neg h]]
      cases hk : r.count c with
      | zero => simp [Lib.replaceK]
      | succ k =>
        obtain ⟨i, hi⟩ := Lib.index_of_count (s := r) (old := [c]) (by rw [Lib.count_one, hk]; omega)
        rw [Lib.replaceK_hit [c] new k (b :: r) (i + 1) (by rw [index_cons, if_neg (fun e => h e.symm), if_neg (by rw [hi]; simp), hi]; rfl), Lib.replaceK_hit [c] new k r i hi]
        simp
theorem replaceAll_one (c : UInt8) (new l : List UInt8) (h : [c] ≠ new) : Lib.replaceAll l [c] new = l.flatMap (rep1 c new) := by
  unfold Lib.replaceAll Lib.replace Lib.replaceNum
  rw [if_neg (by simpa using h), if_pos (.inl (by decide)), Lib.count_one]
  exact replaceK_one c new l
theorem esc_two (l : List UInt8) : Lib.replaceAll (Lib.replaceAll l [92] [92, 92]) [34] [92, 34] = escL l := by
  rw [replaceAll_one 92 [92, 92] l (by decide), replaceAll_one 34 [92, 34] _ (by decide), List.flatMap_assoc]
  unfold escL
  congr 1
  funext b
  unfold rep1 escB
  by_cases h1 : b = 92
  · subst h1; rfl
  · rw [if_neg h1]
    by_cases h2 : b = 34
    · subst h2; rfl
    · rw [if_neg (by rintro (h | h); exact h2 h; exact h1 h), List.flatMap_cons, List.flatMap_nil, if_neg h2]; rfl
theorem esc_len (l : List UInt8) : (escL l).length ≤ 2 * l.length := by
  induction l with
  | nil => exact Nat.le_refl _
  | cons b r ih =>
    unfold escL at ih ⊢
    rw [List.flatMap_cons, List.length_append, List.length_cons]
    have : (escB b).length ≤ 2 := by unfold escB; split <;> simp
    omega
theorem rep_len (c : UInt8) (l : List UInt8) : (l.flatMap (rep1 c [92, c])).length ≤ 2 * l.length := by
  induction l with
  | nil => exact Nat.le_refl _
  | cons b r ih =>
    rw [List.flatMap_cons, List.length_append, List.length_cons]
    have : (rep1 c [92, c] b).length ≤ 2 := by unfold rep1; split <;> simp
    omega

/-! ### What is here -/
theorem decodeL_asc (b : UInt8) (X : List UInt8) (h : b.toNat < 128) : Lib.decodeL (b :: X) = (b.toNat, 1) := by
  rw [decodeL_N]
  unfold Lib.decodeN
  rw [if_pos (show gb (b :: X) 0 < 128 from h)]
  rfl
theorem look_asc (b : UInt8) (X : List UInt8) (h : b.toNat < 128) : lookN (b :: X) = ((b.toNat : Int), 1) := by
  unfold lookN
  rw [if_neg (by simp), decodeL_asc b X h, if_neg (by dsimp only; omega)]
theorem rest_step {s : ByteArray} {a : Nat} {u t : List UInt8} (h : rest s a = u ++ t) : rest s (a + u.length) = t := by
  unfold rest at h ⊢
  rw [← List.drop_drop, h, List.drop_left]
theorem here_asc {s : ByteArray} {a : Nat} {b : UInt8} {X : List UInt8} (h : rest s a = b :: X) (hb : b.toNat < 128) : hereN s a = (b.toNat : Int) ∧ stepN s a = a + 1 ∧ rest s (a + 1) = X := by
  refine ⟨?_, ?_, rest_step (u := [b]) h⟩
  · unfold hereN; rw [h, look_asc b X hb]
  · unfold stepN; rw [h, look_asc b X hb]
theorem here_rune {s : ByteArray} {a c : Nat} {p X : List UInt8} (h : rest s a = p ++ X) (hr : RuneOf p c) : hereN s a = (c : Int) ∧ stepN s a = a + p.length ∧ rest s (a + p.length) = X := by
  have hp := hr.pos
  have hl : lookN (p ++ X) = ((c : Int), p.length) := by
    unfold lookN
    rw [if_neg (by intro e; rw [List.append_eq_nil_iff] at e; rw [e.1] at hp; exact absurd hp (by decide)), hr.ahead X, if_neg]
    intro ⟨h1, h2⟩
    exact hr.ok ⟨h1, by dsimp only at h2; omega⟩
  refine ⟨?_, ?_, rest_step h⟩
  · unfold hereN; rw [h, hl]
  · unfold stepN; rw [h, hl]
theorem here_end {s : ByteArray} {a : Nat} (h : rest s a = []) : hereN s a = -1 := by unfold hereN lookN; rw [h]; rfl
/-- What no number goes on with. -/
def Soft (R : List UInt8) : Prop := R = [] ∨ ∃ b X, R = b :: X ∧ b.toNat < 128 ∧ (b.toNat < 48 ∨ 57 < b.toNat)
theorem here_soft {s : ByteArray} {a : Nat} {R : List UInt8} (h : rest s a = R) (hR : Soft R) : hereN s a < 48 ∨ 57 < hereN s a := by
  rcases hR with rfl | ⟨b, X, rfl, h1, h2⟩
  · rw [here_end h]; omega
  · rw [(here_asc h h1).1]; omega

/-! ### Signs -/
theorem rune_enc {p : List UInt8} {c : Nat} (h : RuneOf p c) : Lib.encodeRune (c : Int) = p := by
  have hp := h.pos
  have := Lib.encode_decode p (List.length_pos_iff.1 hp) (by rw [h.dec]; exact h.ok)
  rw [h.dec, List.take_length] at this
  exact this
theorem encZ_hi {r : Int} (h : 128 ≤ r) : ∀ x ∈ Lib.encodeRuneZ r, 128 ≤ x ∧ x < 256 := by
  intro x hx
  refine ⟨?_, (Lib.encodeRuneZ_byte r x hx).2⟩
  unfold Lib.encodeRuneZ at hx
  rw [if_neg (by omega)] at hx
  split at hx
  · simp only [List.mem_cons, List.not_mem_nil, or_false] at hx; omega
  · split at hx
    · simp only [List.mem_cons, List.not_mem_nil, or_false] at hx; omega
    · split at hx
      · simp only [List.mem_cons, List.not_mem_nil, or_false] at hx; omega
      · simp only [List.mem_cons, List.not_mem_nil, or_false] at hx; omega
theorem esc_rune {p : List UInt8} {c : Nat} (h : RuneOf p c) : (∃ b : UInt8, p = [b] ∧ (b.toNat = 34 ∨ b.toNat = 92) ∧ escL p = [92, b] ∧ Lib.encodeRuneZ (b.toNat : Int) = [(b.toNat : Int)]) ∨ (escL p = p ∧ c ≠ 34 ∧ c ≠ 92) := by
  have he := rune_enc h
  by_cases hc : c < 128
  · have hz : Lib.encodeRuneZ (c : Int) = [(c : Int)] := Lib.encodeRuneZ_one (by omega) (by omega)
    unfold Lib.encodeRune at he
    rw [hz] at he
    simp only [List.map_cons, List.map_nil, Int.toNat_natCast] at he
    obtain ⟨b, hb⟩ : ∃ b : UInt8, b = Nat.toUInt8 c := ⟨_, rfl⟩
    have hbn : b.toNat = c := by rw [hb]; simp; omega
    rw [← hb] at he
    subst he
    by_cases h2 : c = 34 ∨ c = 92
    · left
      refine ⟨b, rfl, by omega, ?_, by rw [hbn]; exact hz⟩
      unfold escL escB
      rw [List.flatMap_cons, List.flatMap_nil, List.append_nil, if_pos]
      rcases h2 with h2 | h2
      · left; exact UInt8.toNat_inj.1 (by rw [hbn, h2]; rfl)
      · right; exact UInt8.toNat_inj.1 (by rw [hbn, h2]; rfl)
    · right
      refine ⟨?_, fun h => h2 (.inl h), fun h => h2 (.inr h)⟩
      unfold escL escB
      rw [List.flatMap_cons, List.flatMap_nil, List.append_nil, if_neg]
      rintro (rfl | rfl)
      · exact h2 (.inl (by rw [← hbn]; rfl))
      · exact h2 (.inr (by rw [← hbn]; rfl))
  · right
    refine ⟨?_, by omega, by omega⟩
    have hall : ∀ b ∈ p, escB b = [b] := by
      intro b hb
      rw [← he] at hb
      unfold Lib.encodeRune at hb
      obtain ⟨x, hx, rfl⟩ := List.mem_map.1 hb
      have h2 := encZ_hi (r := (c : Int)) (by omega) x hx
      have h3 : (x.toNat.toUInt8).toNat = x.toNat := by simp; omega
      unfold escB
      rw [if_neg]
      rintro (e | e)
      · have := congrArg UInt8.toNat e
        rw [h3] at this
        have h4 : (34 : UInt8).toNat = 34 := rfl
        omega
      · have := congrArg UInt8.toNat e
        rw [h3] at this
        have h4 : (92 : UInt8).toNat = 92 := rfl
        omega
    unfold escL
    clear he h
    induction p with
    | nil => rfl
    | cons b r ih => rw [List.flatMap_cons, hall b (by simp), ih fun x hx => hall x (by simp [hx])]; rfl
theorem OkT.len {l : List UInt8} {cs : List Nat} (h : OkT l cs) : cs.length ≤ l.length := by
  induction h with
  | nil => exact Nat.le_refl _
  | cons hr _ ih => have := hr.pos; rw [List.length_append, List.length_cons]; omega
theorem okT_right {s : ByteArray} (h : rightT s = true) : ∃ cs, OkT s.data.toList cs := by
  have h2 := isText_rightT s
  rw [h, Bool.and_eq_true] at h2
  exact (isTextB_ok s).1 h2.1

/-! ### Texts -/
def nB (b : List Int) : List UInt8 := b.map fun n => UInt8.ofNat n.toNat
theorem strOf_nB (b : List Int) : strOfNums b = bs (nB b) := rfl
theorem nB_enc {p : List UInt8} {c : Nat} (h : RuneOf p c) : nB (Lib.encodeRuneZ (c : Int)) = p := by
  have := rune_enc h
  unfold Lib.encodeRune at this
  exact this
theorem txt_back (s : ByteArray) {l : List UInt8} {cs : List Nat} (h : OkT l cs) : ∀ (R : List UInt8) (g : Nat) (b : List Int) (B : List UInt8) (a : Nat), rest s a = escL l ++ 34 :: R → nB b = B → b.length + l.length ≤ 60 → cs.length < g → txtF s g b a = ((flat 2 0 (bs (B ++ l)), rightT (bs (B ++ l))), a + (escL l).length + 1) := by
  induction h with
  | nil =>
    intro R g b B a hr hb hl hg
    obtain ⟨g, rfl⟩ : ∃ k, g = k + 1 := ⟨g - 1, by simp at hg; omega⟩
    obtain ⟨h1, h2, h3⟩ := here_asc (b := 34) hr (by decide)
    have h34 : ((34 : UInt8).toNat : Int) = 34 := rfl
    rw [h34] at h1
    rw [txtF, if_neg (by simp at hl; omega), h1, if_neg (by decide), if_pos rfl, h2, strOf_nB, hb, List.append_nil]
    rfl
  | @cons p r c cs hr _ ih =>
    intro R g b B a hrs hb hl hg
    obtain ⟨g, rfl⟩ : ∃ k, g = k + 1 := ⟨g - 1, by simp at hg; omega⟩
    have hp := hr.pos
    rw [List.length_append] at hl
    rw [List.length_cons] at hg
    have hsp : escL (p ++ r) = escL p ++ escL r := by unfold escL; rw [List.flatMap_append]
    rw [hsp, List.append_assoc] at hrs
    rw [txtF, if_neg (by omega)]
    rcases esc_rune hr with ⟨b0, rfl, hb0, he, hz⟩ | ⟨he, h34, h92⟩
    · rw [he] at hrs
      obtain ⟨h1, h2, h3⟩ := here_asc (b := 92) (X := b0 :: (escL r ++ 34 :: R)) hrs (by decide)
      obtain ⟨k1, k2, k3⟩ := here_asc h3 (by omega)
      have h92 : ((92 : UInt8).toNat : Int) = 92 := rfl
      rw [h92] at h1
      rw [h1, if_neg (by decide), if_neg (by decide), if_pos rfl, h2, k1, if_neg (by omega), hz, k2]
      rw [ih R g (b ++ [(b0.toNat : Int)]) (B ++ [b0]) (a + 1 + 1) k3 (by unfold nB at hb ⊢; rw [List.map_append, hb]; simp) (by simp at hl ⊢; omega) (by omega)]
      rw [hsp, he, List.append_assoc, List.length_append]
      simp only [List.length_cons, List.length_nil]
      rw [show a + 1 + 1 + (escL r).length + 1 = a + (0 + 1 + 1 + (escL r).length) + 1 by omega]
    · rw [he] at hrs
      obtain ⟨h1, h2, h3⟩ := here_rune hrs hr
      rw [h1, if_neg (by omega), if_neg (by omega), if_neg (by omega), h2]
      have hlen : (Lib.encodeRuneZ (c : Int)).length = p.length := by
        have := congrArg List.length (nB_enc hr)
        unfold nB at this
        rwa [List.length_map] at this
      rw [ih R g (b ++ Lib.encodeRuneZ (c : Int)) (B ++ p) (a + p.length) h3 (by
        have h5 := nB_enc hr
        unfold nB at hb h5 ⊢
        rw [List.map_append, hb, h5]) (by rw [List.length_append, hlen]; omega) (by omega)]
      rw [hsp, he, List.append_assoc, List.length_append]
      rw [show a + p.length + (escL r).length + 1 = a + (p.length + (escL r).length) + 1 by omega]

/-! ### Numbers -/
theorem digit_toNat {d : Nat} (h : d < 10) : (UInt8.ofNat (48 + d)).toNat = 48 + d := by simp; omega
theorem dec_small {u : Nat} (h : u < 10) : Lib.decDigits u = [UInt8.ofNat (48 + u)] := by rw [Lib.decDigits, dif_pos h]
theorem dec_big {u : Nat} (h : ¬ u < 10) : Lib.decDigits u = Lib.decDigits (u / 10) ++ [UInt8.ofNat (48 + u % 10)] := by rw [Lib.decDigits, dif_neg h]
theorem dec_head (u : Nat) (h1 : 1 ≤ u) : ∃ d t, Lib.decDigits u = d :: t ∧ 49 ≤ d.toNat ∧ d.toNat ≤ 57 := by
  induction u using Nat.strongRecOn with
  | _ u ih =>
    by_cases h : u < 10
    · exact ⟨_, [], dec_small h, by rw [digit_toNat h]; omega, by rw [digit_toNat h]; omega⟩
    · obtain ⟨d, t, e, h2, h3⟩ := ih (u / 10) (by omega) (by omega)
      exact ⟨d, t ++ [UInt8.ofNat (48 + u % 10)], by rw [dec_big h, e]; rfl, h2, h3⟩
theorem dig_steps (s : ByteArray) (most : Int) (u : Nat) : 1 ≤ u → (u : Int) ≤ most → ∀ (g a : Nat) (R : List UInt8), rest s a = Lib.decDigits u ++ R → digF s most (g + (Lib.decDigits u).length) 0 a = digF s most g (u : Int) (a + (Lib.decDigits u).length) := by
  induction u using Nat.strongRecOn with
  | _ u ih =>
    intro h1 h2 g a R hr
    by_cases h : u < 10
    · rw [dec_small h] at hr ⊢
      obtain ⟨k1, k2, _⟩ := here_asc hr (by rw [digit_toNat h]; omega)
      rw [digit_toNat h] at k1
      rw [List.length_singleton, digF, k1, if_neg (by omega), k2]
      congr 1
      omega
    · rw [dec_big h] at hr ⊢
      rw [List.append_assoc] at hr
      have hl := rest_step hr
      rw [List.length_append, List.length_singleton, show g + ((Lib.decDigits (u / 10)).length + 1) = (g + 1) + (Lib.decDigits (u / 10)).length by omega, ih (u / 10) (by omega) (by omega) (by omega) (g + 1) a _ hr]
      obtain ⟨k1, k2, _⟩ := here_asc hl (by rw [digit_toNat (by omega)]; omega)
      rw [digit_toNat (by omega)] at k1
      rw [digF, k1, if_neg (by omega), k2]
      congr 1
      omega
theorem digN_back {s : ByteArray} {most : Int} {u a : Nat} {R : List UInt8} (h1 : 1 ≤ u) (h2 : (u : Int) ≤ most) (h : rest s a = Lib.decDigits u ++ R) (hR : Soft R) : digN s most a = ((u : Int), a + (Lib.decDigits u).length) := by
  have hl : (Lib.decDigits u).length ≤ s.size - a := by
    have := congrArg List.length h
    rw [rest_len, List.length_append] at this
    omega
  unfold digN
  rw [show s.size - a + 1 = (s.size - a - (Lib.decDigits u).length + 1) + (Lib.decDigits u).length by omega, dig_steps s most u h1 h2 _ a R h, digF, if_pos]
  have := here_soft (rest_step h) hR
  omega
theorem digN_none {s : ByteArray} {most : Int} {a : Nat} (h : hereN s a < 48 ∨ 57 < hereN s a) : digN s most a = (0, a) := by
  unfold digN
  rw [digF, if_pos (by omega)]
theorem itoa_pos {n : Int} (h : 0 ≤ n) : Lib.itoa n = Lib.decDigits n.toNat := by unfold Lib.itoa; rw [if_neg (by omega)]
theorem itoa_neg {n : Int} (h : n < 0) : Lib.itoa n = 45 :: Lib.decDigits n.natAbs := by unfold Lib.itoa; rw [if_pos h]

/-! ### References -/
theorem ref_back {s : ByteArray} {a : Nat} {n : Int} {R : List UInt8} (hn : (1 ≤ n ∧ n ≤ 100000) ∨ (-20 ≤ n ∧ n ≤ -1)) (h : rest s a = Lib.itoa n ++ R) (hR : Soft R) : refN s a = (n, a + (Lib.itoa n).length) := by
  unfold refN
  rcases hn with hn | hn
  · rw [itoa_pos (by omega)] at h ⊢
    obtain ⟨d, t, e, h1, h2⟩ := dec_head n.toNat (by omega)
    have h3 := h
    rw [e] at h3
    rw [(here_asc h3 (by omega)).1, if_neg (by simp; omega), digN_back (by omega) (by omega) h hR]
    congr 1
    omega
  · rw [itoa_neg (by omega)] at h ⊢
    obtain ⟨k1, k2, k3⟩ := here_asc (b := 45) h (by decide)
    rw [k1, show (((45 : UInt8).toNat : Int) == 45) = true from rfl, if_pos rfl, k2, digN_back (u := n.natAbs) (by omega) (by omega) k3 hR, List.length_cons]
    dsimp only
    rw [show a + 1 + (Lib.decDigits n.natAbs).length = a + ((Lib.decDigits n.natAbs).length + 1) by omega]
    congr 1
    omega

/-! ### Values -/
theorem item_back {s : ByteArray} {x : Vl} {a : Nat} {R : List UInt8} (hx : rightF x = true) (h : rest s a = wrF x ++ R) (hR : Soft R) : itemN s a = ((x, true), a + (wrF x).length) := by
  rcases rightF_cases hx with rfl | ⟨k, n, rfl, hk, hn, h1, h2⟩ | ⟨t, rfl, ht⟩
  · have hw : wrF (flat 0 0 (bs [])) = [45] := rfl
    rw [hw] at h ⊢
    obtain ⟨k1, k2, k3⟩ := here_asc (b := 45) h (by decide)
    have h45 : ((45 : UInt8).toNat : Int) = 45 := rfl
    rw [h45] at k1
    unfold itemN
    rw [k1, if_neg (by decide), if_neg (by decide), if_neg (by decide), if_neg (by decide), if_pos rfl, k2, digN_none (here_soft k3 hR), if_neg (by show ¬ (0 : Int) < 0; decide)]
    rfl
  · rcases hk with rfl | rfl | rfl
    · have hw : wrF (flat 1 n (bs [])) = Lib.itoa n := rfl
      rw [hw] at h ⊢
      by_cases hz : n = 0
      · subst hz
        rw [itoa_pos (Int.le_refl _), Int.toNat_zero, dec_small (by decide)] at h ⊢
        obtain ⟨k1, k2, k3⟩ := here_asc (b := UInt8.ofNat (48 + 0)) h (by decide)
        have h48 : ((UInt8.ofNat (48 + 0)).toNat : Int) = 48 := rfl
        rw [h48] at k1
        unfold itemN
        rw [k1, if_neg (by decide), if_neg (by decide), if_neg (by decide), if_pos rfl, k2]
        rfl
      · by_cases hp : 0 < n
        · rw [itoa_pos (by omega)] at h ⊢
          obtain ⟨d, t, e, q1, q2⟩ := dec_head n.toNat (by omega)
          have h3 := h
          rw [e] at h3
          unfold itemN
          rw [(here_asc h3 (by omega)).1, if_neg (by omega), if_neg (by omega), if_neg (by omega), if_neg (by omega), if_neg (by omega), digN_back (by omega) (by omega) h hR]
          dsimp only
          rw [show ((n.toNat : Nat) : Int) = n by omega, decide_eq_true hp]
        · rw [itoa_neg (by omega)] at h ⊢
          obtain ⟨k1, k2, k3⟩ := here_asc (b := 45) h (by decide)
          have h45 : ((45 : UInt8).toNat : Int) = 45 := rfl
          rw [h45] at k1
          unfold itemN
          rw [k1, if_neg (by decide), if_neg (by decide), if_neg (by decide), if_neg (by decide), if_pos rfl, k2, digN_back (u := n.natAbs) (by omega) (by omega) k3 hR, if_pos (by dsimp only; omega), List.length_cons]
          dsimp only
          rw [show a + 1 + (Lib.decDigits n.natAbs).length = a + ((Lib.decDigits n.natAbs).length + 1) by omega, show (-((n.natAbs : Nat) : Int)) = n by omega]
    · have hw : wrF (flat 3 n (bs [])) = 64 :: Lib.itoa n := rfl
      rw [hw] at h ⊢
      have hn2 : (1 ≤ n ∧ n ≤ 100000) ∨ (-20 ≤ n ∧ n ≤ -1) := by
        unfold rightN at hn
        rw [if_neg (by decide), if_neg (by decide), if_pos (.inl rfl)] at hn
        simpa using hn
      obtain ⟨k1, k2, k3⟩ := here_asc (b := 64) h (by decide)
      have h64 : ((64 : UInt8).toNat : Int) = 64 := rfl
      rw [h64] at k1
      unfold itemN
      rw [k1, if_neg (by decide), if_pos rfl, k2, ref_back hn2 k3 hR, List.length_cons]
      dsimp only
      rw [show refOk n = true from decide_eq_true (by omega), show a + 1 + (Lib.itoa n).length = a + ((Lib.itoa n).length + 1) by omega]
    · have hw : wrF (flat 4 n (bs [])) = 126 :: Lib.itoa n := rfl
      rw [hw] at h ⊢
      have hn2 : (1 ≤ n ∧ n ≤ 100000) ∨ (-20 ≤ n ∧ n ≤ -1) := by
        unfold rightN at hn
        rw [if_neg (by decide), if_neg (by decide), if_pos (.inr rfl)] at hn
        simpa using hn
      obtain ⟨k1, k2, k3⟩ := here_asc (b := 126) h (by decide)
      have h126 : ((126 : UInt8).toNat : Int) = 126 := rfl
      rw [h126] at k1
      unfold itemN
      rw [k1, if_neg (by decide), if_neg (by decide), if_pos rfl, k2, ref_back hn2 k3 hR, List.length_cons]
      dsimp only
      rw [show refOk n = true from decide_eq_true (by omega), show a + 1 + (Lib.itoa n).length = a + ((Lib.itoa n).length + 1) by omega]
  · have hw : wrF (flat 2 0 t) = 34 :: (escL t.data.toList ++ [34]) := rfl
    rw [hw] at h ⊢
    obtain ⟨k1, k2, k3⟩ := here_asc (b := 34) (X := escL t.data.toList ++ 34 :: R) (by rw [h]; simp) (by decide)
    have h34 : ((34 : UInt8).toNat : Int) = 34 := rfl
    rw [h34] at k1
    obtain ⟨cs, hcs⟩ := okT_right ht
    have hsz : t.data.toList.length ≤ 60 := by
      rw [data_len]
      unfold rightT at ht
      rw [Bool.and_eq_true, Bool.and_eq_true, decide_eq_true_eq] at ht
      exact ht.1.1
    have hlen := hcs.len
    unfold itemN txtN
    rw [k1, if_pos rfl, k2, txt_back s hcs R 62 [] [] (a + 1) k3 rfl (by simpa using hsz) (by omega), List.nil_append, bs_data, ht, List.length_cons, List.length_append, List.length_singleton]
    rw [show a + 1 + (escL t.data.toList).length + 1 = a + ((escL t.data.toList).length + 1 + 1) by omega]
theorem wrF_head {x : Vl} (hx : rightF x = true) : ∃ b t, wrF x = b :: t ∧ b.toNat < 128 ∧ b.toNat ≠ 91 ∧ b.toNat ≠ 93 := by
  rcases rightF_cases hx with rfl | ⟨k, n, rfl, hk, hn, h1, h2⟩ | ⟨t, rfl, ht⟩
  · exact ⟨45, [], rfl, by decide, by decide, by decide⟩
  · rcases hk with rfl | rfl | rfl
    · rw [show wrF (flat 1 n (bs [])) = Lib.itoa n from rfl]
      by_cases hp : n < 0
      · exact ⟨45, _, itoa_neg hp, by decide, by decide, by decide⟩
      · rw [itoa_pos (by omega)]
        by_cases hz : n = 0
        · subst hz
          exact ⟨48, [], dec_small (by decide), by decide, by decide, by decide⟩
        · obtain ⟨d, t, e, q1, q2⟩ := dec_head n.toNat (by omega)
          exact ⟨d, t, e, by omega, by omega, by omega⟩
    · exact ⟨64, _, rfl, by decide, by decide, by decide⟩
    · exact ⟨126, _, rfl, by decide, by decide, by decide⟩
  · exact ⟨34, _, rfl, by decide, by decide, by decide⟩
theorem joinTail_cons (sep y : List UInt8) (r : List (List UInt8)) : Lib.joinTail sep (y :: r) = sep ++ Lib.join (y :: r) sep := by
  rw [Lib.join_cons]
  simp [Lib.joinTail]
theorem lst_back (s : ByteArray) : ∀ (l : List Vl), (∀ y ∈ l, rightF y = true) → l ≠ [] → ∀ (R : List UInt8) (g : Nat) (acc : List Vl) (a : Nat), rest s a = Lib.join (l.map wrF) [32] ++ 93 :: R → acc.length + l.length ≤ 12 → l.length < g →
    lstF s g acc a = ((.mk 5 0 (bs []) (acc ++ l), true), a + (Lib.join (l.map wrF) [32]).length + 1)
  | [], _, h0 => absurd rfl h0
  | x :: r, hl, _ => by
    intro R g acc a hr ha hg
    obtain ⟨g, rfl⟩ : ∃ k, g = k + 1 := ⟨g - 1, by simp at hg; omega⟩
    rw [List.length_cons] at ha hg
    have hx := hl x (by simp)
    have h93 : ((93 : UInt8).toNat : Int) = 93 := rfl
    have h32 : ((32 : UInt8).toNat : Int) = 32 := rfl
    rw [List.map_cons, Lib.join_cons, List.append_assoc] at hr
    rw [lstF, if_neg (by omega)]
    cases r with
    | nil =>
      have hs : Soft (93 :: R) := .inr ⟨93, R, rfl, by decide, .inr (by decide)⟩
      have hr2 : rest s a = wrF x ++ 93 :: R := hr
      obtain ⟨k1, k2, _⟩ := here_asc (b := 93) (rest_step hr2) (by decide)
      rw [h93] at k1
      rw [item_back hx hr2 hs]
      dsimp only
      rw [if_neg (by simp), k1, if_pos rfl, k2, List.map_cons, List.map_nil, Lib.join_one]
    | cons y r =>
      rw [List.map_cons, joinTail_cons, ← List.map_cons] at hr
      have hr2 : rest s a = wrF x ++ 32 :: (Lib.join ((y :: r).map wrF) [32] ++ 93 :: R) := by rw [hr]; simp
      have hs : Soft (32 :: (Lib.join ((y :: r).map wrF) [32] ++ 93 :: R)) := .inr ⟨32, _, rfl, by decide, .inl (by decide)⟩
      obtain ⟨k1, k2, k3⟩ := here_asc (b := 32) (rest_step hr2) (by decide)
      rw [h32] at k1
      rw [item_back hx hr2 hs]
      dsimp only
      rw [if_neg (by simp), k1, if_neg (by decide), if_pos rfl, k2, lst_back s (y :: r) (fun z hz => hl z (by simp [hz])) (by simp) R g (acc ++ [x]) _ k3 (by simp at ha ⊢; omega) (by omega)]
      rw [List.append_assoc, List.map_cons (a := x), Lib.join_cons, show Lib.joinTail [32] ((y :: r).map wrF) = [32] ++ Lib.join ((y :: r).map wrF) [32] from by rw [List.map_cons, joinTail_cons], List.length_append, List.length_append, List.length_singleton]
      rw [show a + (wrF x).length + 1 + (Lib.join ((y :: r).map wrF) [32]).length + 1 = a + ((wrF x).length + (1 + (Lib.join ((y :: r).map wrF) [32]).length)) + 1 by omega]
      rfl
theorem read_at {s : ByteArray} {x : Vl} {a : Nat} {R : List UInt8} (hx : rightV x = true) (h : rest s a = wrV x ++ R) (hR : Soft R) : readAt s a = ((x, true), a + (wrV x).length) := by
  unfold readAt
  by_cases h5 : x.k = 5
  · obtain ⟨e, h12, hall⟩ := rightV_list hx h5
    have hw : wrV x = 91 :: (Lib.join (x.l.map wrF) [32] ++ [93]) := by unfold wrV; rw [if_pos h5]
    rw [hw] at h ⊢
    obtain ⟨k1, k2, k3⟩ := here_asc (b := 91) (X := Lib.join (x.l.map wrF) [32] ++ 93 :: R) (by rw [h]; simp) (by decide)
    have h91 : ((91 : UInt8).toNat : Int) = 91 := rfl
    rw [h91] at k1
    rw [k1, if_pos rfl, k2]
    unfold lstN
    generalize x.l = l at *
    subst e
    cases l with
    | nil =>
      obtain ⟨q1, q2, _⟩ := here_asc (b := 93) k3 (by decide)
      have h93 : ((93 : UInt8).toNat : Int) = 93 := rfl
      rw [h93] at q1
      rw [q1, if_pos rfl, q2]
      rfl
    | cons y r =>
      obtain ⟨b, t, e, q1, q2, q3⟩ := wrF_head (hall y (by simp))
      have k4 := k3
      rw [List.map_cons, Lib.join_cons, e] at k4
      rw [(here_asc k4 q1).1, if_neg (by omega), lst_back s (y :: r) hall (by simp) R 13 [] (a + 1) k3 (by simpa using h12) (by omega), List.nil_append, List.length_cons, List.length_append, List.length_singleton]
      rw [show a + 1 + (Lib.join ((y :: r).map wrF) [32]).length + 1 = a + ((Lib.join ((y :: r).map wrF) [32]).length + 1 + 1) by omega]
  · have hf : rightF x = true := by unfold rightV at hx; rwa [if_neg h5] at hx
    have hw : wrV x = wrF x := by unfold wrV; rw [if_neg h5]
    rw [hw] at h ⊢
    obtain ⟨b, t, e, q1, q2, q3⟩ := wrF_head hf
    have k4 := h
    rw [e] at k4
    rw [(here_asc k4 q1).1, if_neg (by omega)]
    exact item_back hf h hR
/-- What is written is read, wherever it stands. -/
theorem readR_full (h R : List UInt8) (x : Vl) (hx : rightV x = true) (hR : Soft R) : readR (bs (h ++ (wrV x ++ R))) (h.length : Int) = .inr (x, (h.length : Int) + ((wrV x).length : Int)) := by
  have hr : rest (bs (h ++ (wrV x ++ R))) h.length = wrV x ++ R := by
    unfold rest; rw [bs_list, List.drop_left]
  unfold readR
  rw [if_pos ⟨by omega, by rw [bs_size, List.length_append]; omega⟩, Int.toNat_natCast, read_at hx hr hR, if_pos rfl]
  dsimp only
  rw [Int.natCast_add]
/-- Unlike values are written unlike. -/
theorem wrV_inj {x y : Vl} (hx : rightV x = true) (hy : rightV y = true) (h : wrV x = wrV y) : x = y := by
  have h1 := readR_full [] [] x hx (.inl rfl)
  have h2 := readR_full [] [] y hy (.inl rfl)
  rw [h, h2] at h1
  have := Sum.inr.inj h1
  exact (Prod.mk.inj this).1.symm
end Go.Proofs.YtbmhlpojgiminaaGreatDoor.Val
/- Layer 3: Text: how a value is written. -/
namespace Go.Proofs.YtbmhlpojgiminaaGreatDoor.Val
open Go.RowKit Go.Shelf
open Kit (ret_int ret_bool Moved)

attribute [local go_sem] Oper.semAt_some

/-- What is laid, for what writes texts, too. -/
structure EnvT (ae : Addr) (w : World) : Prop where
  env : Env ae w
  tab : Lib.TabBelow Tryz.prog w.heap.size w "internal/strconv.uint64pow10" .u64 Lib.pow10Tab
  max : ∃ m, w.cell? ⟨4, 0, none⟩ = some (.int .i64 m)
theorem EnvT.below {ae : Addr} {w w' : World} (h : EnvT ae w) (hB : Below w.heap.size w w') : EnvT ae w' := by
  obtain ⟨m, hm⟩ := h.max
  exact ⟨h.env.below hB, fun w'' h2 => h.tab w'' (hB.trans (h2.mono hB.size)), m, (hB.cell (p := ⟨4, 0, none⟩) (Kit.lt_of_cell hm)).trans hm⟩

theorem upT {w W : World} (h : Below w.heap.size w W) (o : Obj) : Below w.heap.size w (W.alloc o) := h.trans ((Kit.below_alloc W o).mono h.size)
theorem nextT {w U W' : World} (h : Below w.heap.size w U) (hB : Below U.heap.size U W') : Below w.heap.size w W' := h.trans (hB.mono h.size)
theorem dec_len : ∀ (k u : Nat), u < 10 ^ (k + 1) → (Lib.decDigits u).length ≤ k + 1
  | 0, u, h => by rw [dec_small (by omega)]; simp
  | k + 1, u, h => by
    by_cases h10 : u < 10
    · rw [dec_small h10]; simp
    · have := dec_len k (u / 10) (by rw [Nat.pow_succ] at h; omega)
      rw [dec_big h10, List.length_append, List.length_singleton]; omega
theorem itoa_len {n : Int} (h : -1000000000000000 ≤ n ∧ n ≤ 1000000000000000) : (Lib.itoa n).length ≤ 20 := by
  unfold Lib.itoa
  split
  · have := dec_len 15 n.natAbs (by omega)
    rw [List.length_cons]; omega
  · have := dec_len 15 n.toNat (by omega)
    omega
theorem right_txt {s : ByteArray} (h : rightT s = true) : s.size ≤ 60 := by
  unfold rightT at h
  rw [Bool.and_eq_true, Bool.and_eq_true, decide_eq_true_eq] at h
  exact h.1.1
theorem wrF_len {x : Vl} (hx : rightF x = true) : (wrF x).length ≤ 200 := by
  rcases rightF_cases hx with rfl | ⟨k, n, rfl, hk, _, h1, h2⟩ | ⟨t, rfl, ht⟩
  · show (1 : Nat) ≤ 200; decide
  · have := itoa_len ⟨h1, h2⟩
    rcases hk with rfl | rfl | rfl
    · show (Lib.itoa n).length ≤ 200; omega
    · show (64 :: Lib.itoa n).length ≤ 200; rw [List.length_cons]; omega
    · show (126 :: Lib.itoa n).length ≤ 200; rw [List.length_cons]; omega
  · have := right_txt ht
    have h2 := esc_len t.data.toList
    rw [data_len] at h2
    show (34 :: (escL t.data.toList ++ [34])).length ≤ 200
    rw [List.length_cons, List.length_append, List.length_singleton]; omega
theorem join_len : ∀ l : List Vl, (∀ y ∈ l, rightF y = true) → (Lib.join (l.map wrF) [32]).length ≤ l.length * 201
  | [], _ => by show (0 : Nat) ≤ _; omega
  | x :: r, h => by
    have h1 := wrF_len (h x (by simp))
    have h2 := join_len r (fun y hy => h y (by simp [hy]))
    rw [List.map_cons, Lib.join_cons, List.length_append, List.length_cons]
    cases r with
    | nil => show _ + 0 ≤ _; omega
    | cons y r => rw [List.map_cons, joinTail_cons, ← List.map_cons, List.length_append, List.length_singleton]; omega
theorem wrV_len {x : Vl} (hx : rightV x = true) : (wrV x).length ≤ 3000 := by
  unfold wrV
  by_cases h5 : x.k = 5
  · rw [if_pos h5]
    obtain ⟨_, h12, hall⟩ := rightV_list hx h5
    have := join_len x.l hall
    rw [List.length_cons, List.length_append, List.length_singleton]; omega
  · rw [if_neg h5]
    have := wrF_len (x := x) (by unfold rightV at hx; rwa [if_neg h5] at hx)
    omega

theorem itoa_any (n : Int) (h0 : -9223372036854775808 ≤ n) (h1 : n ≤ 9223372036854775807) (ae : Addr) (w : World) (hE : EnvT ae w) :
    Calls Tryz.prog 63 #[.int .i64 n] w fun e w' => e = .returned (.string (bs (Lib.itoa n))) ∧ Below w.heap.size w w' :=
  (Tryz.strconv_Itoa n h0 h1 w hE.tab.here).mono fun e w' ⟨he, k, os, hw⟩ => ⟨he, by rw [hw]; exact Lib.below_grow _ _ (Nat.le_refl _) k os⟩

theorem countB_le (s : ByteArray) (c : UInt8) : Lib.countB s ⟨#[c]⟩ ≤ s.size := by
  have h : Lib.countB s ⟨#[c]⟩ = s.data.toList.count c := Lib.count_one c s.data.toList
  rw [h, ← data_len]
  exact List.count_le_length
theorem repl_any (s : ByteArray) (hs : s.size ≤ 1000) (c : UInt8) (ae : Addr) (w : World) (hE : EnvT ae w) :
    Calls Tryz.prog 96 #[.string s, .string ⟨#[c]⟩, .string ⟨#[92, c]⟩] w fun e w' => e = .returned (.string (bs (Lib.replaceAll s.data.toList [c] [92, c]))) ∧ Below w.heap.size w w' := by
  obtain ⟨m, hm⟩ := hE.max
  have := countB_le s c
  exact Tryz.strings_ReplaceAll s ⟨#[c]⟩ ⟨#[92, c]⟩ m w (by omega) hm (by show 1 ≤ 1; decide) (by rw [show (ByteArray.mk #[92, c]).size = 2 from rfl]; omega)

set_option maxRecDepth 100000 in
theorem quote_any (s : ByteArray) (hs : s.size ≤ 60) (ae : Addr) (w : World) (hE : EnvT ae w) :
    Calls Tryz.prog 64 #[.string s] w fun e w' => e = .returned (.string (bs (34 :: (escL s.data.toList ++ [34])))) ∧ Below w.heap.size w w' := by
  have h1 := repl_any s (by omega) 92 ae w hE
  have hL : (Lib.replaceAll s.data.toList [92] [92, 92]).length ≤ 120 := by
    rw [replaceAll_one 92 [92, 92] _ (by decide)]
    have := rep_len 92 s.data.toList
    rw [data_len] at this; omega
  have he := esc_two s.data.toList
  have hlen := esc_len s.data.toList
  rw [data_len] at hlen
  generalize Lib.replaceAll s.data.toList [92] [92, 92] = L at *
  have h2 := fun W (h : EnvT ae W) => repl_any (bs L) (by rw [bs_size]; omega) 34 ae W h
  rw [bs_list, he] at h2
  generalize escL s.data.toList = E at *
  have ha1 : ∀ W, (Op.stringOp .add ⟨#[34]⟩ (bs E)).run Tryz.prog W = .ok (.string (bs (34 :: E))) W := fun W => add_bs [34] E (by simp; omega) W
  have ha2 : ∀ W, (Op.stringOp .add (bs (34 :: E)) ⟨#[34]⟩).run Tryz.prog W = .ok (.string (bs (34 :: (E ++ [34])))) W := fun W => add_bs (34 :: E) [34] (by simp; omega) W
  have HE := Lib.hid (fun W (h : Below w.heap.size w W) => hE.below h)
  have H1 := Lib.hid h1
  have H2 := Lib.hid h2
  clear h1 h2 hE he
  go_enter Tryz.func64, Tryz.ntmps64
  go_wp2_with fail
  refine H1.out.mono ?_; rintro e w1 ⟨rfl, hB1⟩
  have B1 := Lib.hid hB1
  clear hB1
  go_wp2_with fail
  refine (H2.out _ (HE.out _ B1.out)).mono ?_; rintro e w2 ⟨rfl, hB2⟩
  have B2 := Lib.hid (B1.out.trans (hB2.mono B1.out.size))
  clear hB2
  go_wp2
  go_ret
  exact ⟨rfl, B2.out⟩

set_option maxRecDepth 100000 in
set_option maxHeartbeats 1000000 in
/-- A value that is no list. -/
theorem write_flat (x : Vl) (hx : rightF x = true) (ae : Addr) (w : World) (hE : EnvT ae w) :
    Calls Tryz.prog 33 #[aggV x.k x.n x.s (.slice none 0 0)] w fun e w' => e = .returned (.string (bs (wrF x))) ∧ Below w.heap.size w w' := by
  have HB := Lib.hid (fun (v0 v1 v2 v3 : Value) => Kit.below_alloc w (.cells #[v0, v1, v2, v3] 30))
  have HE := Lib.hid (fun W (h : Below w.heap.size w W) => hE.below h)
  clear hE
  rcases rightF_cases hx with rfl | ⟨k, n, rfl, hk, -, h1, h2⟩ | ⟨t, rfl, ht⟩
  · clear hx
    go_enter Tryz.func33, Tryz.ntmps33
    go_wp2
    go_ret
    exact ⟨rfl, HB.out _ _ _ _⟩
  · have hlen := itoa_len ⟨h1, h2⟩
    have HI := Lib.hid (fun W (h : EnvT ae W) => itoa_any n (by omega) (by omega) ae W h)
    have HW1 := Lib.hid (show wrF (flat 1 n (bs [])) = Lib.itoa n from rfl)
    have HW3 := Lib.hid (show wrF (flat 3 n (bs [])) = 64 :: Lib.itoa n from rfl)
    have HW4 := Lib.hid (show wrF (flat 4 n (bs [])) = 126 :: Lib.itoa n from rfl)
    generalize Lib.itoa n = I at *
    have ha1 : ∀ W, (Op.stringOp .add ⟨#[64]⟩ (bs I)).run Tryz.prog W = .ok (.string (bs (64 :: I))) W := fun W => add_bs [64] I (by simp; omega) W
    have ha2 : ∀ W, (Op.stringOp .add ⟨#[126]⟩ (bs I)).run Tryz.prog W = .ok (.string (bs (126 :: I))) W := fun W => add_bs [126] I (by simp; omega) W
    clear hx h1 h2 hlen
    rcases hk with rfl | rfl | rfl
    · go_enter Tryz.func33, Tryz.ntmps33
      go_wp2_with fail
      refine (HI.out _ (HE.out _ (HB.out _ _ _ _))).mono ?_; rintro e w1 ⟨rfl, hB1⟩
      have B1 := Lib.hid (nextT (HB.out _ _ _ _) hB1)
      clear hB1
      go_wp2
      go_ret
      exact ⟨by rw [HW1.out]; rfl, B1.out⟩
    · go_enter Tryz.func33, Tryz.ntmps33
      go_wp2_with fail
      refine (HI.out _ (HE.out _ (HB.out _ _ _ _))).mono ?_; rintro e w1 ⟨rfl, hB1⟩
      have B1 := Lib.hid (nextT (HB.out _ _ _ _) hB1)
      clear hB1
      go_wp2
      go_ret
      exact ⟨by rw [HW3.out]; rfl, B1.out⟩
    · go_enter Tryz.func33, Tryz.ntmps33
      go_wp2_with fail
      refine (HI.out _ (HE.out _ (HB.out _ _ _ _))).mono ?_; rintro e w1 ⟨rfl, hB1⟩
      have B1 := Lib.hid (nextT (HB.out _ _ _ _) hB1)
      clear hB1
      go_wp2
      go_ret
      exact ⟨by rw [HW4.out]; rfl, B1.out⟩
  · have HQ := Lib.hid (fun W (h : EnvT ae W) => quote_any t (right_txt ht) ae W h)
    have HW2 := Lib.hid (show wrF (flat 2 0 t) = 34 :: (escL t.data.toList ++ [34]) from rfl)
    clear hx ht
    go_enter Tryz.func33, Tryz.ntmps33
    go_wp2_with fail
    refine (HQ.out _ (HE.out _ (HB.out _ _ _ _))).mono ?_; rintro e w1 ⟨rfl, hB1⟩
    have B1 := Lib.hid (nextT (HB.out _ _ _ _) hB1)
    clear hB1
    go_wp2
    go_ret
    exact ⟨by rw [HW2.out]; rfl, B1.out⟩

/-- What lies in memory while a list is written. -/
structure WrJ (w : World) (l : List Vl) (k : Nat) (lv : Value) (W : World) : Prop where
  row : W.ownsRow w.heap.size 9 1 lv k ((l.take k).map fun x => .string (bs (wrF x)))
  nil : k = 0 → lv = .slice none 0 0
  below : Below w.heap.size w W
theorem WrJ.later {w : World} {l : List Vl} {k : Nat} {lv : Value} {W W' : World} (h : WrJ w l k lv W) (hB : Below W.heap.size W W') : WrJ w l k lv W' :=
  ⟨Kit.ownsRow_kept h.row (fun j hj => hB.block j (h.row.lt j hj).2), h.nil, h.below.trans (hB.mono h.below.size)⟩
theorem WrJ.slice {w : World} {l : List Vl} {k : Nat} {lv : Value} {W : World} (h : WrJ w l k lv W) : ∃ a c, lv = .slice a k c := by
  rcases h.row.2 with ⟨h1, h2⟩ | ⟨g, cap, cur, h1, _⟩
  · exact ⟨none, 0, by rw [h1, h2]⟩
  · exact ⟨_, _, h1⟩
theorem WrJ.push {w : World} {l : List Vl} {k : Nat} {lv lv' : Value} {W W' : World} {y : Vl} (h : WrJ w l k lv W) (hy : l[k]? = some y) (hg : W.grownBy W' lv.ownBlock) (hown : W'.ownsRow w.heap.size 9 1 lv' (k + 1) (((l.take k).map fun x => .string (bs (wrF x))) ++ [.string (bs (wrF y))])) : WrJ w l (k + 1) lv' W' := by
  obtain ⟨hk, he⟩ := List.getElem?_eq_some_iff.1 hy
  refine ⟨?_, fun h => by omega, h.below.trans ((Kit.Moved.of_grownBy hg).below (fun j hj => (h.row.lt j hj).1) h.below.size)⟩
  rw [List.take_succ_eq_append_getElem hk, he, List.map_append]
  exact hown
theorem WrJ.cells {w : World} {l : List Vl} {g c : Nat} {W : World} (h : WrJ w l l.length (.slice (some ⟨g, 0, none⟩) l.length c) W) : (∀ (j : Nat) (x : ByteArray), (l.map fun x => bs (wrF x))[j]? = some x → W.cell? ⟨g, 0 + j, none⟩ = some (.string x)) ∧ g < W.heap.size ∧ l.length ≤ c := by
  rcases h.row.2 with ⟨h1, _⟩ | ⟨g', cap', cur, h1, h2⟩
  · cases h1
  · cases h1
    refine ⟨fun j x hx => ?_, (h.row.lt g rfl).2, h2.2.2.1⟩
    have := h.row.cells (g := g) rfl j (.string x) (by
      rw [List.take_length, List.getElem?_map]
      rw [List.getElem?_map] at hx
      cases hj : l[j]? with
      | none => rw [hj] at hx; cases hx
      | some y => rw [hj] at hx; cases hx; rfl)
    rw [Addr.add_mid] at this
    exact this
theorem strInfo : (Tryz.prog.info? 9).map (fun i => (i.zero, i.size, i.bytes)) = some (some (.string ⟨#[]⟩), 1, 16) := by kernel_rfl
theorem repL_nl {B : Nat} {w : World} {lv : Value} (h : RepL B w [] lv) : lv = .slice none 0 0 := by
  rcases h with ⟨_, h⟩ | ⟨_, _, _, _, h, _⟩
  · exact h
  · exact absurd rfl h

set_option maxRecDepth 100000 in
set_option maxHeartbeats 4000000 in
/-- A list. -/
theorem write_list (l : List Vl) (hr : ∀ y ∈ l, rightF y = true) (h12 : l.length ≤ 12) (ae : Addr) (B : Nat) (w : World) (lv : Value) (hB : B ≤ w.heap.size) (hE : EnvT ae w) (hl : RepL B w l lv) :
    Calls Tryz.prog 33 #[aggV 5 0 (bs []) lv] w fun e w' => e = .returned (.string (bs (91 :: (Lib.join (l.map wrF) [32] ++ [93])))) ∧ Below w.heap.size w w' := by
  obtain ⟨la, lc, rfl, -⟩ := hl.len
  have hjl := join_len l hr
  have HX := Lib.hid (And.intro hl (And.intro hB hr))
  have HE := Lib.hid (fun W (h : Below w.heap.size w W) => hE.below h)
  have J0 : Hid (WrJ w l 0 (.slice none 0 0) (w.alloc (.cells #[.int .i64 5, .int .i64 0, .string (bs []), .slice la l.length lc] 30))) := Lib.hid ⟨World.ownsRow_nil _ _ _ _, fun _ => rfl, Kit.below_alloc _ _⟩
  obtain ⟨i1, hi0, hz0, hz1, hz2⟩ := info_parts strInfo
  clear hl hB hr hE
  go_enter Tryz.func33, Tryz.ntmps33
  go_upto_region 13 with fail
  change Code.wp _ _ _ _ (w.alloc (.cells #[.int .i64 5, .int .i64 0, .string (bs []), .slice la l.length lc] 30))
  generalize w.alloc (.cells #[.int .i64 5, .int .i64 0, .string (bs []), .slice la l.length lc] 30) = W0 at *
  go_wp2_with fail
  go_loopw [3, 35] (fun sv i wr => ∃ k : Nat, k ≤ l.length ∧ i = .int .i64 k ∧ WrJ w l k sv wr) (fun _ i _ => l.length - (intOf i).toNat)
  case atStart => exact ⟨0, by omega, rfl, J0.out⟩
  case round =>
    obtain ⟨k, hk, rfl, hJ⟩ := hrel
    obtain ⟨sa, sc, rfl⟩ := hJ.slice
    have J1 := Lib.hid hJ
    clear J0 hJ
    by_cases hlt : k < l.length
    · have j1 : (k : Int) < (l.length : Int) := by omega
      obtain ⟨y, hy⟩ : ∃ y, l[k]? = some y := ⟨_, List.getElem?_eq_getElem hlt⟩
      have hry := HX.out.2.2 y (List.mem_of_getElem? hy)
      obtain ⟨b, o, c, lw, he, hb, ⟨t0, t1, t2, t3⟩, hlw⟩ := HX.out.1.at hy
      have hyl : y.l = [] := by
        rcases rightF_cases hry with rfl | ⟨_, _, rfl, _⟩ | ⟨_, rfl, _⟩ <;> rfl
      rw [hyl] at hlw
      obtain rfl := repL_nl hlw
      cases he
      have hbw : b < w.heap.size := by have := HX.out.2.1; omega
      have u0 := (J1.out.below.cell (p := ⟨b, o + k * 4, none⟩) hbw).trans t0
      have u1 := (J1.out.below.cell (p := ⟨b, o + k * 4 + 1, none⟩) hbw).trans t1
      have u2 := (J1.out.below.cell (p := ⟨b, o + k * 4 + 2, none⟩) hbw).trans t2
      have u3 := (J1.out.below.cell (p := ⟨b, o + k * 4 + 3, none⟩) hbw).trans t3
      have HW := Lib.hid (fun W (h : EnvT ae W) => write_flat y hry ae W h)
      have HY := Lib.hid hy
      have B2 := Lib.hid (upT J1.out.below (.cells #[.int .i64 y.k, .int .i64 y.n, .string y.s, .slice none 0 0] 30))
      have J2 := Lib.hid (J1.out.later (Kit.below_alloc wr (.cells #[.int .i64 y.k, .int .i64 y.n, .string y.s, .slice none 0 0] 30)))
      clear t0 t1 t2 t3 hlw hry hy hyl hb hbw J1
      go_wp2_with fail
      refine (HW.out _ (HE.out _ B2.out)).mono ?_; rintro e W2 ⟨rfl, hB2⟩
      have J3 := Lib.hid ((J2.out.later hB2).later (Kit.below_alloc W2 (.cells #[.string (bs (wrF y))] 9)))
      have C3 := Lib.hid (show ∀ (j : Nat) (u : Value), ([.string (bs (wrF y))] : List Value)[j]? = some u → (W2.alloc (.cells #[.string (bs (wrF y))] 9)).cell? ((⟨W2.heap.size, 0, none⟩ : Addr).add j) = some u from fun j u hu => by
        rw [Addr.add_mid]
        exact Kit.cell_new W2 _ _ (0 + j) (by rw [Nat.zero_add, ← Array.getElem?_toList]; exact hu))
      have O3 := Lib.hid (show ∀ u ∈ ([.string (bs (wrF y))] : List Value), u.oneCell' = true from fun u hu => by rw [List.mem_singleton] at hu; subst hu; rfl)
      clear hB2 u0 u1 u2 u3 J2
      go_upto_region 16 with (at_builtin; refine wpList_append_own_at _ rfl _ _ 84 rfl w.heap.size 9 i1 (.string ⟨#[]⟩) 1 16 Tryz.underlying84 hi0 hz0 hz1 hz2 rfl (by decide) _ _ _ rfl J3.out.row ⟨W2.heap.size, 0, none⟩ 1 1 [.string (bs (wrF y))] rfl rfl C3.out O3.out (by unfold maxLen; omega) (by omega) J3.out.below.size ?_; intro v6 W6 hown6 hg6 hn6 hat6; have J6 := Lib.hid (J3.out.push HY.out hg6 hown6); clear hown6 hg6 hn6 hat6 J3 C3)
      go_wp2
      go_roundw
      case rel => exact ⟨k + 1, by omega, by go_num, J6.out⟩
      case measure => simp [intOf]; omega
    · have hkk : k = l.length := by omega
      subst hkk
      have j1 : ¬ (l.length : Int) < (l.length : Int) := by omega
      by_cases h0 : l = []
      · have hn := J1.out.nil (by rw [h0]; rfl)
        subst h0
        cases hn
        have HJ := Lib.hid (fun W => Tryz.strings_Join_none none 0 ⟨#[32]⟩ W)
        have ha1 : ∀ W, (Op.stringOp .add ⟨#[91]⟩ ⟨#[]⟩).run Tryz.prog W = .ok (.string (bs [91])) W := fun W => add_bs [91] [] (by decide) W
        have ha2 : ∀ W, (Op.stringOp .add (bs [91]) ⟨#[93]⟩).run Tryz.prog W = .ok (.string (bs [91, 93])) W := fun W => add_bs [91] [93] (by decide) W
        go_wp2_with fail
        refine (HJ.out _).mono ?_; rintro e W2 ⟨rfl, rfl⟩
        go_wp2
        go_ret
        exact ⟨rfl, J1.out.below⟩
      · obtain ⟨g, gc, he⟩ : ∃ g gc, Value.slice sa l.length sc = .slice (some ⟨g, 0, none⟩) l.length gc := by
          rcases J1.out.row.2 with ⟨_, h2⟩ | ⟨g, cap, cur, h1, _⟩
          · exact absurd (List.eq_nil_of_length_eq_zero h2) h0
          · exact ⟨g, cap, h1⟩
        obtain ⟨rfl, rfl⟩ : some ⟨g, 0, none⟩ = sa ∧ gc = sc := by cases he; exact ⟨rfl, rfl⟩
        obtain ⟨hc, hg, hle⟩ := J1.out.cells
        have hxs : (l.map fun x => bs (wrF x)).map (·.data.toList) = l.map wrF := by rw [List.map_map]; rfl
        have hJ := Tryz.strings_Join g 0 gc (l.map fun x => bs (wrF x)) ⟨#[32]⟩ wr hc hg (by rw [List.length_map]; omega) (by rw [List.length_map]; exact hle) (by rw [hxs]; exact Nat.le_trans hjl (by omega))
        rw [hxs, List.length_map] at hJ
        have hJ2 : Calls Tryz.prog 65 #[.slice (some ⟨g, 0, none⟩) l.length gc, .string ⟨#[32]⟩] wr fun e w' => e = .returned (.string (bs (Lib.join (l.map wrF) [32]))) ∧ Below wr.heap.size wr w' := hJ
        obtain ⟨JJ, hJJ⟩ : ∃ JJ, JJ = Lib.join (l.map wrF) [32] := ⟨_, rfl⟩
        rw [← hJJ] at hJ2 hjl
        have HJ := Lib.hid hJ2
        have HJJ := Lib.hid hJJ
        clear hJ hJ2 hc hg hle hxs he hJJ
        have ha1 : ∀ W, (Op.stringOp .add ⟨#[91]⟩ (bs JJ)).run Tryz.prog W = .ok (.string (bs (91 :: JJ))) W := fun W => add_bs [91] JJ (by simp; omega) W
        have ha2 : ∀ W, (Op.stringOp .add (bs (91 :: JJ)) ⟨#[93]⟩).run Tryz.prog W = .ok (.string (bs (91 :: (JJ ++ [93])))) W := fun W => add_bs (91 :: JJ) [93] (by simp; omega) W
        go_wp2_with fail
        refine HJ.out.mono ?_; rintro e W2 ⟨rfl, hB2⟩
        have B2 := Lib.hid (nextT J1.out.below hB2)
        clear hB2
        go_wp2
        go_ret
        exact ⟨by rw [← HJJ.out]; rfl, B2.out⟩

theorem write_any (x : Vl) (hx : rightV x = true) (ae : Addr) (B : Nat) (w : World) (lv : Value) (hB : B ≤ w.heap.size) (hE : EnvT ae w) (hl : RepL B w x.l lv) :
    Calls Tryz.prog 33 #[aggV x.k x.n x.s lv] w fun e w' => e = .returned (.string (bs (wrV x))) ∧ Below w.heap.size w w' := by
  by_cases h5 : x.k = 5
  · obtain ⟨he, h12, hall⟩ := rightV_list hx h5
    have hw : wrV x = 91 :: (Lib.join (x.l.map wrF) [32] ++ [93]) := by unfold wrV; rw [if_pos h5]
    have h := write_list x.l hall h12 ae B w lv hB hE hl
    rw [hw]
    rw [he]
    exact h
  · have hf : rightF x = true := by unfold rightV at hx; rwa [if_neg h5] at hx
    have hw : wrV x = wrF x := by unfold wrV; rw [if_neg h5]
    have hxl : x.l = [] := by
      rcases rightF_cases hf with rfl | ⟨_, _, rfl, _⟩ | ⟨_, rfl, _⟩ <;> rfl
    rw [hxl] at hl
    obtain rfl := repL_nl hl
    rw [hw]
    exact write_flat x hf ae w hE

set_option maxRecDepth 100000 in
/-- Text, of a right value. -/
theorem Text_any (x : Vl) (hx : rightV x = true) (ae : Addr) (w : World) (v : Value) (hE : EnvT ae w) (hr : Rep w.heap.size w x v) :
    Calls Tryz.prog 9 #[v] w fun e w' => e = .returned (.tuple #[.string (bs (wrV x)), .int .i64 0]) ∧ Below w.heap.size w w' := by
  obtain ⟨lv, rfl, hl⟩ := rep_of hr
  obtain ⟨a, c, rfl, -⟩ := hl.len
  have hB0 := Kit.below_alloc w (.cells #[.int .i64 x.k, .int .i64 x.n, .string x.s, .slice a x.l.length c] 30)
  have HR := Lib.hid (fun W (h : Below w.heap.size w W) => right_any ae x (rightV_enc hx).fits W.heap.size W _ (Nat.le_refl _) (hE.below h).env ((hr.below h (Nat.le_refl _)).mono h.size))
  have HW := Lib.hid (fun W (h : Below w.heap.size w W) => write_any x hx ae W.heap.size W _ (Nat.le_refl _) (hE.below h) ((hl.below h (Nat.le_refl _)).mono h.size))
  have B0 := Lib.hid hB0
  have A0 := Lib.hid (Kit.box4_new w (.int .i64 x.k) (.int .i64 x.n) (.string x.s) (.slice a x.l.length c) 30)
  rw [hx] at HR
  obtain ⟨p1, p2, p3, p4⟩ := A0.out
  clear hx hE hr hl hB0
  go_enter Tryz.func9, Tryz.ntmps9
  go_wp2_with fail
  refine (HR.out _ B0.out).mono ?_; rintro e w1 ⟨rfl, hB1⟩
  have B1 := Lib.hid (nextT B0.out hB1)
  obtain ⟨q1, q2, q3, q4⟩ := A0.out.below hB1 (A0.out.lt)
  clear hB1 p1 p2 p3 p4 A0
  go_wp2_with fail
  refine (HW.out _ B1.out).mono ?_; rintro e w2 ⟨rfl, hB2⟩
  have B2 := Lib.hid (nextT B1.out hB2)
  clear hB2 q1 q2 q3 q4
  go_wp2
  go_ret2
  exact ⟨rfl, B2.out⟩
end Go.Proofs.YtbmhlpojgiminaaGreatDoor.Val
