/- Plain mathematics of the sum (CRC-32): it names nothing of the program. -/
import Derived.WalkKit
namespace Go.Proofs.Ythmpdnndfgmmfaa.Wire

/-- One bit's turn. -/
def stp (c : Nat) : Nat := if c % 2 = 1 then c / 2 ^^^ 3988292384 else c / 2
def stps : Nat → Nat → Nat
  | 0, c => c
  | k + 1, c => stp (stps k c)
def trn (c b : Nat) : Nat := stps 8 (c ^^^ b)
def crc (l : List UInt8) (c : Nat) : Nat := l.foldl (fun c b => trn c b.toNat) c
def sumN (l : List UInt8) : Nat := crc l 4294967295 ^^^ 4294967295

theorem xor_lt {a b : Nat} (h1 : a < 4294967296) (h2 : b < 4294967296) : a ^^^ b < 4294967296 := Nat.xor_lt_two_pow (n := 32) h1 h2
theorem stp_lt {c : Nat} (h : c < 4294967296) : stp c < 4294967296 := by
  unfold stp; split
  · exact xor_lt (by omega) (by omega)
  · omega
theorem stps_lt {c : Nat} (h : c < 4294967296) : ∀ k, stps k c < 4294967296
  | 0 => h
  | k + 1 => stp_lt (stps_lt h k)
theorem trn_lt {c b : Nat} (h : c < 4294967296) (hb : b < 4294967296) : trn c b < 4294967296 := stps_lt (xor_lt h hb) 8
theorem crc_lt (l : List UInt8) : ∀ {c : Nat}, c < 4294967296 → crc l c < 4294967296 := by
  induction l with
  | nil => intro c h; exact h
  | cons b l ih => intro c h; exact ih (trn_lt h (by have := b.toNat_lt; omega))
theorem sumN_lt (l : List UInt8) : sumN l < 4294967296 := xor_lt (crc_lt l (by decide)) (by decide)
theorem crc_append (l m : List UInt8) (c : Nat) : crc (l ++ m) c = crc m (crc l c) := by simp [crc]
theorem crc_snoc (l : List UInt8) (b : UInt8) (c : Nat) : crc (l ++ [b]) c = trn (crc l c) b.toNat := by simp [crc]

/-- The turn of an exclusive or. -/
theorem stp_xor (a b : Nat) : stp (a ^^^ b) = stp a ^^^ stp b := by
  have hd : (a ^^^ b) / 2 = a / 2 ^^^ b / 2 := Nat.xor_div_two
  have hm : (a ^^^ b) % 2 = (a % 2 + b % 2) % 2 := by
    have h := Nat.xor_mod_two_pow (a := a) (b := b) (n := 1)
    rw [Nat.pow_one] at h
    rw [h]
    rcases Nat.mod_two_eq_zero_or_one a with ha | ha <;> rcases Nat.mod_two_eq_zero_or_one b with hb | hb <;> rw [ha, hb] <;> rfl
  unfold stp
  rw [hm, hd]
  rcases Nat.mod_two_eq_zero_or_one a with ha | ha <;> rcases Nat.mod_two_eq_zero_or_one b with hb | hb <;> rw [ha, hb] <;> simp
  · ac_rfl
  · ac_rfl
  · have e : a / 2 ^^^ 3988292384 ^^^ (b / 2 ^^^ 3988292384) = (a / 2 ^^^ b / 2) ^^^ (3988292384 ^^^ 3988292384) := by ac_rfl
    rw [e, Nat.xor_self, Nat.xor_zero]
theorem stps_xor (a b : Nat) : ∀ k, stps k (a ^^^ b) = stps k a ^^^ stps k b
  | 0 => rfl
  | k + 1 => by show stp (stps k (a ^^^ b)) = _; rw [stps_xor a b k, stp_xor]; rfl
theorem stp_zero {c : Nat} (h : c < 4294967296) (hz : stp c = 0) : c = 0 := by
  unfold stp at hz
  split at hz
  · have : c / 2 = 3988292384 := by
      have h2 := congrArg (· ^^^ 3988292384) hz
      simpa [Nat.xor_assoc] using h2
    omega
  · omega
theorem stps_zero {c : Nat} (h : c < 4294967296) : ∀ k, stps k c = 0 → c = 0
  | 0, hz => hz
  | k + 1, hz => stps_zero h k (stp_zero (stps_lt h k) hz)
theorem xor_eq_zero {a b : Nat} (h : a ^^^ b = 0) : a = b := by
  have h2 := congrArg (· ^^^ b) h
  simpa [Nat.xor_assoc] using h2
theorem trn_xor (c d b : Nat) : trn c b ^^^ trn d b = stps 8 (c ^^^ d) := by
  unfold trn
  rw [← stps_xor]
  congr 1
  rw [Nat.xor_assoc, Nat.xor_comm b, Nat.xor_assoc, Nat.xor_self, Nat.xor_zero]
theorem trn_left_inj {c d b : Nat} (hc : c < 4294967296) (hd : d < 4294967296) (h : trn c b = trn d b) : c = d :=
  xor_eq_zero (stps_zero (xor_lt hc hd) 8 (by rw [← trn_xor c d b, h, Nat.xor_self]))
theorem trn_right_inj {c a b : Nat} (ha : a < 4294967296) (hb : b < 4294967296) (h : trn c a = trn c b) : a = b := by
  have e : trn c a ^^^ trn c b = stps 8 (a ^^^ b) := by
    unfold trn
    rw [← stps_xor]
    congr 1
    rw [Nat.xor_comm c a, Nat.xor_assoc, ← Nat.xor_assoc c c b, Nat.xor_self, Nat.zero_xor]
  exact xor_eq_zero (stps_zero (xor_lt ha hb) 8 (by rw [← e, h, Nat.xor_self]))
theorem crc_inj (l : List UInt8) : ∀ {c d : Nat}, c < 4294967296 → d < 4294967296 → crc l c = crc l d → c = d := by
  induction l with
  | nil => intro c d _ _ h; exact h
  | cons b l ih =>
    intro c d hc hd h
    have hb : b.toNat < 4294967296 := by have := b.toNat_lt; omega
    exact trn_left_inj hc hd (ih (trn_lt hc hb) (trn_lt hd hb) h)
/-- Texts that differ in one byte have unlike sums. -/
theorem sumN_apart (l m : List UInt8) (a b : UInt8) : sumN (l ++ a :: m) = sumN (l ++ b :: m) ↔ a = b := by
  constructor
  · intro h
    have hl : crc l 4294967295 < 4294967296 := crc_lt l (by decide)
    have h1 : crc (l ++ a :: m) 4294967295 = crc (l ++ b :: m) 4294967295 := by
      unfold sumN at h
      have h2 := congrArg (· ^^^ 4294967295) h
      simpa only [Nat.xor_assoc, Nat.xor_self, Nat.xor_zero] using h2
    rw [crc_append, crc_append] at h1
    have h3 : trn (crc l 4294967295) a.toNat = trn (crc l 4294967295) b.toNat :=
      crc_inj m (trn_lt hl (by have := a.toNat_lt; omega)) (trn_lt hl (by have := b.toNat_lt; omega)) h1
    have h4 := trn_right_inj (by have := a.toNat_lt; omega) (by have := b.toNat_lt; omega) h3
    exact UInt8.toNat_inj.1 h4
  · rintro rfl; rfl

/-- Three texts of one length, turned by each other. -/
def xor3 : List UInt8 → List UInt8 → List UInt8 → List UInt8
  | a :: l, b :: m, c :: n => (a ^^^ b ^^^ c) :: xor3 l m n
  | _, _, _ => []
theorem xor_swap (a b c d : Nat) : (a ^^^ b) ^^^ (c ^^^ d) = (a ^^^ c) ^^^ (b ^^^ d) := by
  rw [Nat.xor_assoc, Nat.xor_assoc, ← Nat.xor_assoc b c d, Nat.xor_comm b c, Nat.xor_assoc c b d]
theorem crc_xor3 : ∀ (l m n : List UInt8) (x y z : Nat), l.length = m.length → m.length = n.length → crc l x ^^^ crc m y ^^^ crc n z = crc (xor3 l m n) (x ^^^ y ^^^ z)
  | [], [], [], _, _, _, _, _ => rfl
  | a :: l, b :: m, c :: n, x, y, z, h1, h2 => by
    have ih := crc_xor3 l m n (trn x a.toNat) (trn y b.toNat) (trn z c.toNat) (by simpa using h1) (by simpa using h2)
    show crc l (trn x a.toNat) ^^^ crc m (trn y b.toNat) ^^^ crc n (trn z c.toNat) = crc (xor3 l m n) (trn (x ^^^ y ^^^ z) (a ^^^ b ^^^ c).toNat)
    rw [ih]
    congr 1
    unfold trn
    rw [← stps_xor, ← stps_xor, UInt8.toNat_xor, UInt8.toNat_xor]
    congr 1
    ac_rfl
  | [], _ :: _, _, _, _, _, h1, _ => by simp at h1
  | _ :: _, [], _, _, _, _, h1, _ => by simp at h1
  | [], [], _ :: _, _, _, _, _, h2 => by simp at h2
  | _ :: _, _ :: _, [], _, _, _, _, h2 => by simp at h2
theorem sumN_xor3 (l m n : List UInt8) (h1 : l.length = m.length) (h2 : m.length = n.length) : sumN l ^^^ sumN m ^^^ sumN n = sumN (xor3 l m n) := by
  unfold sumN
  have h := crc_xor3 l m n 4294967295 4294967295 4294967295 h1 h2
  rw [Nat.xor_self, Nat.zero_xor] at h
  rw [← h]
  have e : ∀ a b c d : Nat, (a ^^^ d) ^^^ (b ^^^ d) ^^^ (c ^^^ d) = (a ^^^ b ^^^ c ^^^ d) ^^^ (d ^^^ d) := fun a b c d => by ac_rfl
  rw [e, Nat.xor_self, Nat.xor_zero]
end Go.Proofs.Ythmpdnndfgmmfaa.Wire
