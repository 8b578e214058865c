/- Plain mathematics of layer 1 (numbers as bytes): it names nothing of the program. Stated so that the walks of the code can cite it. -/
import Derived.WalkKit
namespace Go.Proofs.YtbmhlpojgiminaaGreatDoor.Wire

/-- The number that is cut into groups. -/
def foldN (n : Int) : Nat := if n < 0 then (2 * (-1 - n) + 1).toNat else (2 * n).toNat
/-- Back. -/
def unfoldN (u : Nat) : Int := if u % 2 = 1 then -1 - ((u / 2 : Nat) : Int) else ((u / 2 : Nat) : Int)

theorem foldN_lt {n : Int} (h1 : -9223372036854775808 ≤ n) (h2 : n ≤ 9223372036854775807) : foldN n < 18446744073709551616 := by
  unfold foldN; split <;> omega
theorem unfold_fold (n : Int) : unfoldN (foldN n) = n := by
  unfold foldN unfoldN; split <;> split <;> omega
theorem fold_unfold (u : Nat) : foldN (unfoldN u) = u := by
  unfold foldN unfoldN; split <;> split <;> omega

/-- A number's groups, least first: at most k + 1 of them. -/
def grp : Nat → Nat → List (Fin 128)
  | 0, u => [⟨u % 128, Nat.mod_lt _ (by decide)⟩]
  | k + 1, u => ⟨u % 128, Nat.mod_lt _ (by decide)⟩ :: (if u / 128 = 0 then [] else grp k (u / 128))

theorem grp_head (k u : Nat) : ∃ r, grp k u = ⟨u % 128, Nat.mod_lt _ (by decide)⟩ :: r := by
  cases k with
  | zero => exact ⟨[], rfl⟩
  | succ k => exact ⟨_, rfl⟩
theorem grp_ne (k u : Nat) : grp k u ≠ [] := by
  obtain ⟨r, h⟩ := grp_head k u; rw [h]; simp
theorem grp_len (k u : Nat) : (grp k u).length ≤ k + 1 := by
  induction k generalizing u with
  | zero => simp [grp]
  | succ k ih =>
    unfold grp
    have := ih (u / 128)
    split <;> simp <;> omega
theorem grp_last {k u : Nat} (h : u / 128 = 0) : grp k u = [⟨u % 128, Nat.mod_lt _ (by decide)⟩] := by
  cases k with
  | zero => rfl
  | succ k => simp [grp, h]
theorem grp_more {k u : Nat} (h : u / 128 ≠ 0) : grp (k + 1) u = ⟨u % 128, Nat.mod_lt _ (by decide)⟩ :: grp k (u / 128) := by
  simp [grp, h]

/-- 128 more on each. -/
def hi (l : List (Fin 128)) : List Int := l.map fun g => (g.val : Int) + 128
/-- What the first groups are as bytes: 128 more on each but the last. -/
def bytesOf (l : List (Fin 128)) : List Int := hi l.dropLast ++ l.getLast?.toList.map fun g => (g.val : Int)
theorem bytesOf_nil : bytesOf [] = [] := rfl
theorem bytesOf_snoc (l : List (Fin 128)) (g : Fin 128) : bytesOf (l ++ [g]) = hi l ++ [(g.val : Int)] := by simp [bytesOf]
theorem hi_snoc (l : List (Fin 128)) (g : Fin 128) : hi (l ++ [g]) = hi l ++ [(g.val : Int) + 128] := by simp [hi]
theorem hi_len (l : List (Fin 128)) : (hi l).length = l.length := by simp [hi]
theorem bytesOf_len (l : List (Fin 128)) : (bytesOf l).length = l.length := by
  rcases List.eq_nil_or_concat l with rfl | ⟨p, g, rfl⟩
  · rfl
  · rw [List.concat_eq_append, bytesOf_snoc]; simp [hi]
theorem bytesOf_range (l : List (Fin 128)) : ∀ x ∈ bytesOf l, 0 ≤ x ∧ x < 256 := by
  rcases List.eq_nil_or_concat l with rfl | ⟨p, g, rfl⟩
  · simp [bytesOf, hi]
  · rw [List.concat_eq_append, bytesOf_snoc]
    intro x hx
    rcases List.mem_append.1 hx with hx | hx
    · obtain ⟨y, _, rfl⟩ := List.mem_map.1 hx; omega
    · obtain rfl := List.mem_singleton.1 hx; omega

/-- A number's bytes. -/
def numB (n : Int) : List UInt8 := (bytesOf (grp 9 (foldN n))).map fun x => UInt8.ofNat x.toNat
theorem numB_len (n : Int) : (numB n).length ≤ 10 := by
  have := grp_len 9 (foldN n)
  simp [numB, bytesOf_len]; omega
end Go.Proofs.YtbmhlpojgiminaaGreatDoor.Wire
