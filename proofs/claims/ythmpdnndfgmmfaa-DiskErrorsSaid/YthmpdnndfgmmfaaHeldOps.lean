/- Layer 2: the calls' contracts over disks beside each other. -/
import Derived.Test.YthmpdnndfgmmfaaHeld
namespace Go.Proofs.Ythmpdnndfgmmfaa.Disk
open Go.RowKit

def okWrite (D : Dk) (a : Int) (s : ByteArray) : Bool := decide (0 ≤ a ∧ a < D.n ∧ s.size = 64)
/-- What a call leaves, and tells. -/
def Dk.write (D : Dk) (a : Int) (s : ByteArray) : Dk × Int := if okWrite D a s then if D.powered then (D.wrote a.toNat s, 0) else (D, 22) else (D, 20)
def Dk.syncE (D : Dk) : Dk × Int := if D.powered then (D.sync, 0) else (D, 22)
def Dk.crashE (D : Dk) (xs : List Int) : Dk × Int := if okKeep D.pend.length xs then (D.crash xs, 0) else (D, 21)
def Dk.rotR (D : Dk) (a p m : Int) : Dk × Int := if D.rotE a p m = 0 then (D.rot a.toNat p.toNat (UInt8.ofNat m.toNat), 0) else (D, D.rotE a p m)
def Dk.cutE (D : Dk) (n : Int) : Dk × Int := if n < 0 then (D, 2) else ({ D with cut := true, left := n.toNat }, 0)

theorem After.same {w w' : World} {F : Foot} {D : Dk} (h : On w F D) (hb : Below w.heap.size w w') : After F w D w' :=
  ⟨F.pv, h.keep fun k hk => hb.block k (h.lt k hk), fun _ hk => .inl hk, (Moved.of_below hb).mono fun k hk e => by omega⟩
theorem After.kept {w w' : World} {F : Foot} {D' : Dk} (h : On w' F D') (hm : Moved (fun k => k = F.kb) w w') : After F w D' w' :=
  ⟨F.pv, h, fun _ hk => .inl hk, hm.mono fun _ _ e => .inr (.inl e)⟩

section
variable {w : World} {A : Nat → Prop} {L : List (Nat × Dk)} (h : Held w A L) {i p : Nat} {D : Dk} (hi : L[i]? = some (p, D))
include h hi

theorem write_held (a : Int) (h1 : -9223372036854775808 ≤ a) (h2 : a ≤ 9223372036854775807) (s : ByteArray) (few : D.pend.length < 1000) :
    Calls Try.prog 21 #[.pointer (some ⟨p, 0, none⟩), .int .i64 a, .string s] w fun e w' => e = .returned (.int .i64 (D.write a s).2) ∧ Then w w' A (L.set i (p, (D.write a s).1)) := by
  refine h.call hi ?_
  rintro F rfl hO _
  unfold Dk.write
  by_cases hk : 0 ≤ a ∧ a < D.n ∧ s.size = 64
  · rw [show okWrite D a s = true from decide_eq_true hk, if_pos rfl]
    obtain ⟨n, rfl⟩ := Int.eq_ofNat_of_zero_le hk.1
    cases hp : D.powered with
    | true => exact write_any hO hp n (by omega) s hk.2.2 few
    | false => exact write_off hO hp n (by omega) s hk.2.2
  · rw [show okWrite D a s = false from decide_eq_false hk, if_neg (by simp)]
    refine (write_bad hO a h1 h2 s hk).mono ?_
    rintro e w' ⟨rfl, rfl⟩
    exact ⟨rfl, After.same hO (Below.refl _ _)⟩

theorem sync_held : Calls Try.prog 20 #[.pointer (some ⟨p, 0, none⟩)] w fun e w' => e = .returned (.int .i64 D.syncE.2) ∧ Then w w' A (L.set i (p, D.syncE.1)) := by
  refine h.call hi ?_
  rintro F rfl hO _
  unfold Dk.syncE
  cases hp : D.powered with
  | true => exact sync_any hO hp
  | false => exact sync_off hO hp

theorem crash_held (xs : List Int) (hlen : xs.length ≤ 1000) (hxb : ∀ x ∈ xs, -9223372036854775808 ≤ x ∧ x ≤ 9223372036854775807) (v : Value) (hv : IntsAt w v xs) (hA : ∀ b, v.ownBlock = some b → A b) :
    Calls Try.prog 13 #[.pointer (some ⟨p, 0, none⟩), v] w fun e w' => e = .returned (.int .i64 (D.crashE xs).2) ∧ Then w w' A (L.set i (p, (D.crashE xs).1)) := by
  refine h.call hi ?_
  rintro F rfl hO hF
  unfold Dk.crashE
  cases hk : okKeep D.pend.length xs with
  | true => exact crash_any hO xs hlen hxb v hv (fun b hb hf => hF b hf (hA b hb)) hk
  | false =>
    refine (crash_bad hO xs hlen hxb v hv hk).mono ?_
    rintro e w' ⟨rfl, hb⟩
    exact ⟨rfl, After.same hO hb⟩

theorem rot_held (a q m : Int) (h1 : -9223372036854775808 ≤ a ∧ a ≤ 9223372036854775807) :
    Calls Try.prog 22 #[.pointer (some ⟨p, 0, none⟩), .int .i64 a, .int .i64 q, .int .i64 m] w fun e w' => e = .returned (.int .i64 (D.rotR a q m).2) ∧ Then w w' A (L.set i (p, (D.rotR a q m).1)) := by
  refine h.call hi ?_
  rintro F rfl hO _
  unfold Dk.rotR
  by_cases hk : D.rotE a q m = 0
  · rw [if_pos hk]
    unfold Dk.rotE at hk
    split at hk
    · split at hk
      · rename_i k1 k2
        obtain ⟨n, rfl⟩ := Int.eq_ofNat_of_zero_le k1.1
        obtain ⟨r, rfl⟩ := Int.eq_ofNat_of_zero_le k2.1
        obtain ⟨b, rfl⟩ := Int.eq_ofNat_of_zero_le k2.2.2.1
        have hb : (UInt8.ofNat b).toNat = b := by rw [UInt8.toNat_ofNat']; omega
        have hr := rot_any hO n r (UInt8.ofNat b) (by omega) (by omega)
        rw [hb] at hr
        refine hr.mono ?_
        rintro e w' ⟨rfl, hO', hm⟩
        exact ⟨rfl, After.kept hO' hm⟩
      · cases hk
    · cases hk
  · rw [if_neg hk]
    refine (rot_bad hO a q m h1 hk).mono ?_
    rintro e w' ⟨rfl, rfl⟩
    exact ⟨rfl, After.same hO (Below.refl _ _)⟩

theorem cut_held (n : Int) (h1 : -9223372036854775808 ≤ n) (h2 : n ≤ 9223372036854775807) :
    Calls Try.prog 23 #[.pointer (some ⟨p, 0, none⟩), .int .i64 n] w fun e w' => e = .returned (.int .i64 (D.cutE n).2) ∧ Then w w' A (L.set i (p, (D.cutE n).1)) := by
  refine h.call hi ?_
  rintro F rfl hO _
  unfold Dk.cutE
  by_cases hn : n < 0
  · rw [if_pos hn]
    refine (cut_bad w F n hn).mono ?_
    rintro e w' ⟨rfl, rfl⟩
    exact ⟨rfl, After.same hO (Below.refl _ _)⟩
  · rw [if_neg hn]
    obtain ⟨m, rfl⟩ := Int.eq_ofNat_of_zero_le (Int.not_lt.1 hn)
    exact cut_any hO m (by omega)

theorem read_held (a : Int) (h1 : -9223372036854775808 ≤ a) (h2 : a ≤ 9223372036854775807) :
    Calls Try.prog 16 #[.pointer (some ⟨p, 0, none⟩), .int .i64 a] w fun e w' => e = .returned (.tuple #[.string (D.read a).1, .int .i64 (D.read a).2]) ∧ Then w w' A L := by
  obtain ⟨F, rfl, hO, _⟩ := h.lies hi
  refine (read_any hO a h1 h2).mono ?_
  rintro e w' ⟨rfl, hb⟩
  exact ⟨rfl, h.grow hb⟩
theorem pending_held : Calls Try.prog 15 #[.pointer (some ⟨p, 0, none⟩)] w fun e w' => e = .returned (.int .i64 (D.pend.length : Int)) ∧ w = w' := by
  obtain ⟨F, rfl, hO, _⟩ := h.lies hi
  exact pending_any hO
theorem size_held : Calls Try.prog 24 #[.pointer (some ⟨p, 0, none⟩)] w fun e w' => e = .returned (.int .i64 (D.n : Int)) ∧ w = w' := by
  obtain ⟨F, rfl, hO, _⟩ := h.lies hi
  exact size_any hO
end

theorem new_held {w : World} {A : Nat → Prop} {L : List (Nat × Dk)} (h : Held w A L) (n : Nat) (h1 : 1 ≤ n) (h2 : n ≤ 768) :
    Calls Try.prog 26 #[.int .i64 (n : Int)] w fun e w' => ∃ p, e = .returned (.tuple #[.pointer (some ⟨p, 0, none⟩), .int .i64 0]) ∧ w.heap.size ≤ p ∧ Then w w' A (L ++ [(p, Dk.new n)]) := by
  refine (new_any n h1 h2 w).mono ?_
  rintro e w' ⟨F, rfl, hO, hF, hb⟩
  exact ⟨F.p, rfl, hF _ (.inl rfl), h.add hb hO hF⟩
end Go.Proofs.Ythmpdnndfgmmfaa.Disk
