/- Layer 3: Compare, of any values: the order, plainly. -/
import Derived.Test.YtlcmphoamoiemaaGreatDoorProg
import Derived.Test.YtlcmphoamoiemaaGreatDoorVal
import Derived.WalkLawsBesides
import Derived.WalkSpells
import Derived.StillTailTactics
import Derived.Deep.QuietTactic
import Derived.BigQuiet
import Derived.Lib.Hide
import Derived.Deep.Cut
import Derived.Outline
namespace Go.Proofs.YtlcmphoamoiemaaGreatDoor.Val
open Go.RowKit
open Kit (ret_int ret_bool)

def cmpI (a b : Int) : Int := if a < b then -1 else if b < a then 1 else 0
def cmpS (a b : ByteArray) : Int := if Op.bytesLess a.toList b.toList then -1 else if a.toList == b.toList then 0 else 1
mutual
def cmpV : Vl → Vl → Int
  | .mk k n s l, .mk k' n' s' l' => if cmpI k k' ≠ 0 then cmpI k k' else if cmpI n n' ≠ 0 then cmpI n n' else if cmpS s s' ≠ 0 then cmpS s s' else cmpL l l'
def cmpL : List Vl → List Vl → Int
  | [], [] => 0
  | [], _ :: _ => -1
  | _ :: _, [] => 1
  | x :: r, y :: q => if cmpV x y ≠ 0 then cmpV x y else cmpL r q
end

theorem isNaN_int (a : Int) (w : World) : Calls Tryz.prog 93 #[.int .i64 a] w fun e w' => e = .returned (.bool false) ∧ w = w' := by
  go_enter Tryz.func93, Tryz.ntmps93
  go_wp2
  go_ret
  exact ⟨rfl, rfl⟩
theorem isNaN_str (a : ByteArray) (w : World) : Calls Tryz.prog 94 #[.string a] w fun e w' => e = .returned (.bool false) ∧ w = w' := by
  go_enter Tryz.func94, Tryz.ntmps94
  go_wp2
  go_ret
  exact ⟨rfl, rfl⟩

theorem cmp_int (a b : Int) (w : World) : Calls Tryz.prog 53 #[.int .i64 a, .int .i64 b] w fun e w' => e = .returned (.int .i64 (cmpI a b)) ∧ w = w' := by
  unfold cmpI
  by_cases h : a < b
  · rw [if_pos h]
    go_enter Tryz.func53, Tryz.ntmps53
    go_wp2_with (go_at_call 93; refine (isNaN_int _ _).mono ?_; rintro e w' ⟨rfl, rfl⟩)
    go_ret
    exact ⟨rfl, rfl⟩
  · rw [if_neg h]
    by_cases h2 : b < a
    · rw [if_pos h2]
      go_enter Tryz.func53, Tryz.ntmps53
      go_wp2_with (go_at_call 93; refine (isNaN_int _ _).mono ?_; rintro e w' ⟨rfl, rfl⟩)
      go_ret
      exact ⟨rfl, rfl⟩
    · rw [if_neg h2]
      go_enter Tryz.func53, Tryz.ntmps53
      go_wp2_with (go_at_call 93; refine (isNaN_int _ _).mono ?_; rintro e w' ⟨rfl, rfl⟩)
      go_ret
      exact ⟨rfl, rfl⟩

theorem cmp_str (a b : ByteArray) (w : World) : Calls Tryz.prog 54 #[.string a, .string b] w fun e w' => e = .returned (.int .i64 (cmpS a b)) ∧ w = w' := by
  unfold cmpS
  cases h : Op.bytesLess a.toList b.toList
  · cases h2 : a.toList == b.toList
    · simp only [Bool.false_eq_true, if_false]
      go_enter Tryz.func54, Tryz.ntmps54
      go_wp2_with (go_at_call 94; refine (isNaN_str _ _).mono ?_; rintro e w' ⟨rfl, rfl⟩)
      go_ret
      exact ⟨rfl, rfl⟩
    · simp only [Bool.false_eq_true, if_false, if_true]
      go_enter Tryz.func54, Tryz.ntmps54
      go_wp2_with (go_at_call 94; refine (isNaN_str _ _).mono ?_; rintro e w' ⟨rfl, rfl⟩)
      go_ret
      exact ⟨rfl, rfl⟩
  · simp only [if_true]
    go_enter Tryz.func54, Tryz.ntmps54
    go_wp2_with (go_at_call 94; refine (isNaN_str _ _).mono ?_; rintro e w' ⟨rfl, rfl⟩)
    go_ret
    exact ⟨rfl, rfl⟩

/-- The first of three that is not 0. -/
def or3 (a b c : Int) : Int := if a ≠ 0 then a else if b ≠ 0 then b else c

theorem or3_a {a b c : Int} (h : a ≠ 0) : or3 a b c = a := by unfold or3; rw [if_pos h]
theorem or3_b {a b c : Int} (h : a = 0) (h1 : b ≠ 0) : or3 a b c = b := by unfold or3; rw [if_neg (by rw [h]; simp), if_pos h1]
theorem or3_c {a b c : Int} (h : a = 0) (h1 : b = 0) : or3 a b c = c := by unfold or3; rw [if_neg (by rw [h]; simp), if_neg (by rw [h1]; simp)]

theorem or_any (a b c : Int) (g : Nat) (w : World) (h0 : w.cell? ⟨g, 0, none⟩ = some (.int .i64 a)) (h1 : w.cell? ⟨g, 1, none⟩ = some (.int .i64 b)) (h2 : w.cell? ⟨g, 2, none⟩ = some (.int .i64 c)) :
    Calls Tryz.prog 52 #[.slice (some ⟨g, 0, none⟩) 3 3] w fun e w' => e = .returned (.int .i64 (or3 a b c)) ∧ w = w' := by
  go_enter Tryz.func52, Tryz.ntmps52
  go_wp2
  go_loop [5, 8] (fun v i => ∃ k : Nat, k ≤ 3 ∧ i = .int .i64 k ∧ (0 < k → a = 0) ∧ (1 < k → b = 0) ∧ (2 < k → c = 0)) (fun _ i => 3 - (intOf i).toNat)
  case atStart => exact ⟨0, by omega, rfl, by omega, by omega, by omega⟩
  case round =>
    obtain ⟨k, hk, rfl, ha, hb, hc⟩ := hrel
    have hkk : k = 0 ∨ k = 1 ∨ k = 2 ∨ k = 3 := by omega
    clear hk
    rcases hkk with rfl | rfl | rfl | rfl
    · by_cases h : a = 0
      · have H := Lib.hid h
        have hz : (a != 0) = false := by simpa using h
        clear h ha hb hc
        go_wp2
        go_round
        case rel => exact ⟨1, by omega, rfl, fun _ => H.out, by omega, by omega⟩
        case measure => simp [intOf]
      · have hz : (a != 0) = true := by simpa using h
        have H := Lib.hid (or3_a (b := b) (c := c) h)
        clear h ha hb hc
        go_wp2
        go_ret
        exact ⟨ret_int H.out.symm, rfl⟩
    · have H := Lib.hid (ha (by omega))
      by_cases h : b = 0
      · have H2 := Lib.hid h
        have hz : (b != 0) = false := by simpa using h
        clear h ha hb hc
        go_wp2
        go_round
        case rel => exact ⟨2, by omega, rfl, fun _ => H.out, fun _ => H2.out, by omega⟩
        case measure => simp [intOf]
      · have hz : (b != 0) = true := by simpa using h
        have H2 := Lib.hid (or3_b (c := c) H.out h)
        clear h ha hb hc
        go_wp2
        go_ret
        exact ⟨ret_int H2.out.symm, rfl⟩
    · have H := Lib.hid (ha (by omega))
      have H1 := Lib.hid (hb (by omega))
      by_cases h : c = 0
      · have H2 := Lib.hid h
        have hz : (c != 0) = false := by simpa using h
        clear h ha hb hc
        go_wp2
        go_round
        case rel => exact ⟨3, by omega, rfl, fun _ => H.out, fun _ => H1.out, fun _ => H2.out⟩
        case measure => simp [intOf]
      · have hz : (c != 0) = true := by simpa using h
        have H2 := Lib.hid (or3_c (c := c) H.out H1.out)
        clear h ha hb hc
        go_wp2
        go_ret
        exact ⟨ret_int H2.out.symm, rfl⟩
    · have H := Lib.hid (ha (by omega))
      have H1 := Lib.hid (hb (by omega))
      have H2 := Lib.hid (hc (by omega))
      clear ha hb hc
      go_wp2
      go_ret
      exact ⟨ret_int (by rw [or3_c H.out H1.out, H2.out]), rfl⟩
end Go.Proofs.YtlcmphoamoiemaaGreatDoor.Val
