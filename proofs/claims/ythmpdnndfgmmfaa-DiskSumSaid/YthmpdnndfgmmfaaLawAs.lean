/- Layer 2's laws: the contracts as a straight walk meets them. -/
import Derived.Test.YthmpdnndfgmmfaaLawFilled
namespace Go.Proofs.Ythmpdnndfgmmfaa.Disk
open Go.RowKit

theorem Then.mono {a b : World} {A B : Nat → Prop} {L : List (Nat × Dk)} (h : Then a b A L) (hB : ∀ k, B k → A k) : Then a b B L :=
  ⟨h.1.mono hB, h.2.mono fun k _ hk hb => hk (hB k hb)⟩
theorem write_good (n : Nat) (K : Nat → List UInt8) (l : List (Nat × List UInt8)) (a : Nat) (ha : a < n) (t : List UInt8) (ht : t.length = 64) : (Dk.mk n K l false 0).write (a : Int) (strB t) = (⟨n, K, l ++ [(a, t)], false, 0⟩, 0) := by
  have hk : okWrite (Dk.mk n K l false 0) (a : Int) (strB t) = true := by
    refine decide_eq_true ⟨by omega, by show (a : Int) < (n : Int); omega, ?_⟩
    show t.toArray.size = 64
    rw [List.size_toArray, ht]
  unfold Dk.write
  rw [if_pos hk, if_pos (show (Dk.mk n K l false 0).powered = true from rfl)]
  unfold Dk.wrote Dk.spent strB
  simp

section
variable {w : World} {A : Nat → Prop} {L : List (Nat × Dk)} (h : Held w A L) {p : Nat} {D : Dk} (i : Nat) (hi : L[i]? = some (p, D))
include h hi

theorem write_as (few : D.pend.length < 1000) {a : Int} (ha : -9223372036854775808 ≤ a ∧ a ≤ 9223372036854775807) {s : ByteArray} {D' : Dk} {r : Int} (hD : D.write a s = (D', r)) {L' : List (Nat × Dk)} (hL : L.set i (p, D') = L') :
    Calls Try.prog 21 #[.pointer (some ⟨p, 0, none⟩), .int .i64 a, .string s] w fun e w' => e = .returned (.int .i64 r) ∧ Then w w' A L' := by
  have := write_held h hi a ha.1 ha.2 s few
  rw [hD, hL] at this
  exact this
theorem sync_as {D' : Dk} {r : Int} (hD : D.syncE = (D', r)) {L' : List (Nat × Dk)} (hL : L.set i (p, D') = L') :
    Calls Try.prog 20 #[.pointer (some ⟨p, 0, none⟩)] w fun e w' => e = .returned (.int .i64 r) ∧ Then w w' A L' := by
  have := sync_held h hi
  rw [hD, hL] at this
  exact this
theorem crash_as (xs : List Int) (hlen : xs.length ≤ 1000) (hxb : ∀ x ∈ xs, -9223372036854775808 ≤ x ∧ x ≤ 9223372036854775807) {v : Value} (hv : IntsAt w v xs) (hA : ∀ b, v.ownBlock = some b → A b) {D' : Dk} {r : Int} (hD : D.crashE xs = (D', r)) {L' : List (Nat × Dk)} (hL : L.set i (p, D') = L') :
    Calls Try.prog 13 #[.pointer (some ⟨p, 0, none⟩), v] w fun e w' => e = .returned (.int .i64 r) ∧ Then w w' A L' := by
  have := crash_held h hi xs hlen hxb v hv hA
  rw [hD, hL] at this
  exact this
theorem crash_nil {D' : Dk} {r : Int} (hD : D.crashE [] = (D', r)) {L' : List (Nat × Dk)} (hL : L.set i (p, D') = L') :
    Calls Try.prog 13 #[.pointer (some ⟨p, 0, none⟩), .slice none 0 0] w fun e w' => e = .returned (.int .i64 r) ∧ Then w w' A L' :=
  crash_as h i hi [] (by simp) (by simp) (.inl ⟨_, _, rfl, rfl⟩) (fun b hb => by simp [Value.ownBlock] at hb) hD hL
/-- Of a list that lies in blocks that are new. -/
theorem crash_new (xs : List Int) (hlen : xs.length ≤ 1000) (hxb : ∀ x ∈ xs, -9223372036854775808 ≤ x ∧ x ≤ 9223372036854775807) {w1 : World} (hb : Below w.heap.size w w1) {v : Value} (hv : IntsAt w1 v xs) (hA : ∀ b, v.ownBlock = some b → w.heap.size ≤ b ∧ b < w1.heap.size)
    {D' : Dk} {r : Int} (hD : D.crashE xs = (D', r)) {L' : List (Nat × Dk)} (hL : L.set i (p, D') = L') :
    Calls Try.prog 13 #[.pointer (some ⟨p, 0, none⟩), v] w1 fun e w' => e = .returned (.int .i64 r) ∧ Then w w' A L' := by
  have hw := h.widen hb
  refine (crash_as hw i hi xs hlen hxb hv (fun b hb' => .inr (hA b hb')) hD hL).mono ?_
  · rintro e w' ⟨rfl, hT⟩
    refine ⟨rfl, ?_⟩
    have h1 := h.grow hb
    exact ⟨(hT.mono fun k hk => Or.inl hk).1, h1.2.trans (hT.mono fun k hk => Or.inl hk).2 fun _ _ e => e⟩
theorem crash_lit (xs : List Int) (hlen : xs.length ≤ 1000) (hxb : ∀ x ∈ xs, -9223372036854775808 ≤ x ∧ x ≤ 9223372036854775807) {n : Nat} (hn : n = xs.length) {C : Array Value} (hC : C = (xs.map (Value.int .i64)).toArray)
    {D' : Dk} {r : Int} (hD : D.crashE xs = (D', r)) {L' : List (Nat × Dk)} (hL : L.set i (p, D') = L') :
    Calls Try.prog 13 #[.pointer (some ⟨p, 0, none⟩), .slice (some ⟨w.heap.size, 0, none⟩) n n] (w.alloc (.cells C 3)) fun e w' => e = .returned (.int .i64 r) ∧ Then w w' A L' := by
  subst hn hC
  refine crash_new h i hi xs hlen hxb ((Below.refl _ w).alloc (Nat.le_refl _) _) (.inr ⟨w.heap.size, 0, xs.length, rfl, by simp, Nat.le_refl _, fun j x hx => ?_⟩) (fun b hb => by simp [Value.ownBlock] at hb; simp; omega) hD hL
  exact Kit.cell_new w _ _ (0 + j) (by simp [hx])
theorem rot_as {a q m : Int} (ha : -9223372036854775808 ≤ a ∧ a ≤ 9223372036854775807) {D' : Dk} {r : Int} (hD : D.rotR a q m = (D', r)) {L' : List (Nat × Dk)} (hL : L.set i (p, D') = L') :
    Calls Try.prog 22 #[.pointer (some ⟨p, 0, none⟩), .int .i64 a, .int .i64 q, .int .i64 m] w fun e w' => e = .returned (.int .i64 r) ∧ Then w w' A L' := by
  have := rot_held h hi a q m ha
  rw [hD, hL] at this
  exact this
theorem cut_as {n : Int} (hn : -9223372036854775808 ≤ n ∧ n ≤ 9223372036854775807) {D' : Dk} {r : Int} (hD : D.cutE n = (D', r)) {L' : List (Nat × Dk)} (hL : L.set i (p, D') = L') :
    Calls Try.prog 23 #[.pointer (some ⟨p, 0, none⟩), .int .i64 n] w fun e w' => e = .returned (.int .i64 r) ∧ Then w w' A L' := by
  have := cut_held h hi n hn.1 hn.2
  rw [hD, hL] at this
  exact this
theorem read_as {a : Int} (ha : -9223372036854775808 ≤ a ∧ a ≤ 9223372036854775807) {s : ByteArray} {r : Int} (hD : D.read a = (s, r)) :
    Calls Try.prog 16 #[.pointer (some ⟨p, 0, none⟩), .int .i64 a] w fun e w' => e = .returned (.tuple #[.string s, .int .i64 r]) ∧ Then w w' A L := by
  have := read_held h hi a ha.1 ha.2
  rw [hD] at this
  exact this
end

theorem full_held {w : World} {A : Nat → Prop} {L : List (Nat × Dk)} (h : Held w A L) (s : ByteArray) (hs : s.size ≤ 9223372036854775807) :
    Calls Try.prog 18 #[.string s] w fun e w' => e = .returned (.string (strB (fullB s))) ∧ Then w w' A L :=
  (full_any s hs w).mono fun _ _ ⟨h1, h2⟩ => ⟨h1, h.grow h2⟩
theorem read_good (D : Dk) (a : Nat) (h : a < D.n) {t : List UInt8} (ht : D.there a = t) : D.read (a : Int) = (strB t, 0) := by
  unfold Dk.read; rw [if_pos (by omega), Int.toNat_natCast, ht]
end Go.Proofs.Ythmpdnndfgmmfaa.Disk
