/- The walk of WireShort: numbers nearer to 0 have no more bytes. -/
import Derived.Test.YtjmbkgcicdaomaaDoorWireShown
import Derived.Deep.Cut
import Derived.Deep.CutRange
namespace Go.Proofs.YtjmbkgcicdaomaaDoor.Wire
open Go.RowKit Go.Shelf
open Kit (ret_int)

theorem grp_len_mono : ∀ (k u v : Nat), u ≤ v → (grp k u).length ≤ (grp k v).length
  | 0, _, _, _ => by simp [grp]
  | k + 1, u, v, h => by
    by_cases hu : u / 128 = 0
    · rw [grp_last hu]; exact grp_pos _ _
    · have hv : v / 128 ≠ 0 := by omega
      rw [grp_more hu, grp_more hv]
      simp only [List.length_cons]
      have := grp_len_mono k (u / 128) (v / 128) (by omega)
      omega
theorem grp_len_div (k u v : Nat) (h : u / 128 = v / 128) : (grp k u).length = (grp k v).length := by
  cases k with
  | zero => simp [grp]
  | succ k =>
    by_cases hu : u / 128 = 0
    · rw [grp_last hu, grp_last (by omega)]; rfl
    · rw [grp_more hu, grp_more (by omega), h]; rfl
/-- A number, and -1 less it, have as many bytes. -/
theorem numB_turn (a : Int) (h : 0 ≤ a) : (numB a).length = (numB (-1 - a)).length := by
  rw [numB_length, numB_length]
  apply grp_len_div
  unfold foldN
  rw [if_neg (by omega), if_pos (by omega)]
  omega
theorem numB_mono (a b : Int) (h : 0 ≤ a) (hab : a ≤ b) : (numB a).length ≤ (numB b).length := by
  rw [numB_length, numB_length]
  apply grp_len_mono
  unfold foldN
  rw [if_neg (by omega), if_neg (by omega)]
  omega
theorem numB_one (a : Int) : 1 ≤ (numB a).length := by rw [numB_length]; exact grp_pos _ _
theorem size_numB (n : Int) : (⟨(numB n).toArray⟩ : ByteArray).size = (numB n).length := by
  show (numB n).toArray.size = _
  simp

theorem ret_bool {a b : Bool} (h : a = b) : Ending.returned (.bool a) = .returned (.bool b) := by rw [h]

/-- The number that is looked at. -/
def near (a : Int) : Int := if a < 0 then -1 - a else a

set_option maxRecDepth 100000 in
set_option maxHeartbeats 2000000 in
theorem short_any (a b : Int) (ha1 : -9223372036854775808 ≤ a) (ha2 : a ≤ 9223372036854775807) (hb1 : -9223372036854775808 ≤ b) (hb2 : b ≤ 9223372036854775807) (ae : Addr) (w : World) (h : Env ae w) :
    Calls Tryd.prog 6 #[.int .i64 a, .int .i64 b] w fun e w' => e = .returned (.bool true) ∧ Below w.heap.size w w' := by
  go_enter Tryd.func6, Tryd.ntmps6
  go_wp2_with fail
  refine (shown_any ae _ h).mono ?_
  rintro e w1 ⟨rfl, hB1⟩
  clear h
  have hna : 0 ≤ near a ∧ near a ≤ 9223372036854775807 := by unfold near; split <;> omega
  have hnb : 0 ≤ near b ∧ near b ≤ 9223372036854775807 := by unfold near; split <;> omega
  obtain ⟨A, hA⟩ : ∃ A, A = near a := ⟨_, rfl⟩
  obtain ⟨B, hB⟩ : ∃ B, B = near b := ⟨_, rfl⟩
  rw [← hA] at hna
  rw [← hB] at hnb
  have HA := Lib.hid hA; clear hA
  have HB := Lib.hid hB; clear hB
  go_upto_if 8 with fail
  go_cut [0] from 8 (fun s0 wc => s0 = .int .i64 A ∧ w1 = wc)
  case first =>
    by_cases hs : a < 0
    · have e : A = -1 - a := by rw [HA.out]; unfold near; rw [if_pos hs]
      have E := Lib.hid e; clear e
      go_wp2
      go_meet
      exact ⟨by rw [E.out], rfl⟩
    · have e : A = a := by rw [HA.out]; unfold near; rw [if_neg hs]
      have E := Lib.hid e; clear e
      go_wp2
      go_meet
      exact ⟨by rw [E.out], rfl⟩
  case rest =>
    obtain ⟨rfl, rfl⟩ := hcut
    go_upto_if 12 with fail
    go_cut [1] from 12 (fun s1 wc => s1 = .int .i64 B ∧ w1 = wc)
    case first =>
      by_cases hs : b < 0
      · have e : B = -1 - b := by rw [HB.out]; unfold near; rw [if_pos hs]
        have E := Lib.hid e; clear e
        go_wp2
        go_meet
        exact ⟨by rw [E.out], rfl⟩
      · have e : B = b := by rw [HB.out]; unfold near; rw [if_neg hs]
        have E := Lib.hid e; clear e
        go_wp2
        go_meet
        exact ⟨by rw [E.out], rfl⟩
    case rest =>
      obtain ⟨rfl, rfl⟩ := hcut
      clear ha1 ha2 hb1 hb2 HA HB
      obtain ⟨p1, p2⟩ := hna
      obtain ⟨p3, p4⟩ := hnb
      obtain ⟨n1, hn1⟩ : ∃ n1 : Nat, n1 = (numB A).length := ⟨_, rfl⟩
      have z1 : (⟨(numB A).toArray⟩ : ByteArray).size = n1 := by rw [size_numB, hn1]
      have z2 : (⟨(numB (-1 - A)).toArray⟩ : ByteArray).size = n1 := by rw [size_numB, ← numB_turn A p1, hn1]
      obtain ⟨n2, hn2⟩ : ∃ n2 : Nat, n2 = (numB B).length := ⟨_, rfl⟩
      have z3 : (⟨(numB B).toArray⟩ : ByteArray).size = n2 := by rw [size_numB, hn2]
      have q1 : 1 ≤ n1 := by rw [hn1]; exact numB_one A
      have q2 : n1 ≤ 10 := by rw [hn1]; exact numB_len A
      have q3 : A ≤ B → n1 ≤ n2 := fun h => by rw [hn1, hn2]; exact numB_mono A B p1 h
      have q4 : n2 ≤ 10 := by rw [hn2]; exact numB_len B
      clear hn1 hn2
      have cA := fun W => num_any A (by omega) p2 W
      have cA' := fun W => num_any (-1 - A) (by omega) (by omega) W
      have cB := fun W => num_any B (by omega) p4 W
      generalize (⟨(numB A).toArray⟩ : ByteArray) = S1 at *
      generalize (⟨(numB (-1 - A)).toArray⟩ : ByteArray) = S2 at *
      generalize (⟨(numB B).toArray⟩ : ByteArray) = S3 at *
      have CA := Lib.hid cA; clear cA
      have CA' := Lib.hid cA'; clear cA'
      have CB := Lib.hid cB; clear cB
      have Q3 := Lib.hid q3; clear q3
      by_cases hab : B < A
      · go_wp2_with fail
        refine (CA.out _).mono ?_
        rintro e w2 ⟨rfl, hB2⟩
        go_wp2_with fail
        refine (CA'.out _).mono ?_
        rintro e w3 ⟨rfl, hB3⟩
        go_wp2_with fail
        refine (CA.out _).mono ?_
        rintro e w4 ⟨rfl, hB4⟩
        go_wp2_with fail
        refine (CA.out _).mono ?_
        rintro e w5 ⟨rfl, hB5⟩
        go_wp2
        go_ret
        refine ⟨ret_bool (decide_eq_true (by omega)), ?_⟩
        have b2 := hB1.trans (hB2.mono hB1.size)
        have b3 := b2.trans (hB3.mono b2.size)
        have b4 := b3.trans (hB4.mono b3.size)
        exact b4.trans (hB5.mono b4.size)
      · have hab' : A ≤ B := by omega
        have q3 := Q3.out hab'
        go_wp2_with fail
        refine (CA.out _).mono ?_
        rintro e w2 ⟨rfl, hB2⟩
        go_wp2_with fail
        refine (CA'.out _).mono ?_
        rintro e w3 ⟨rfl, hB3⟩
        go_wp2_with fail
        refine (CA.out _).mono ?_
        rintro e w4 ⟨rfl, hB4⟩
        go_wp2_with fail
        refine (CB.out _).mono ?_
        rintro e w5 ⟨rfl, hB5⟩
        have q5 : (n1 : Int) ≤ n2 := by omega
        go_wp2_with fail
        refine (CA.out _).mono ?_
        rintro e w6 ⟨rfl, hB6⟩
        go_wp2_with fail
        refine (CA.out _).mono ?_
        rintro e w7 ⟨rfl, hB7⟩
        go_wp2
        go_ret
        refine ⟨ret_bool (decide_eq_true (by omega)), ?_⟩
        have b2 := hB1.trans (hB2.mono hB1.size)
        have b3 := b2.trans (hB3.mono b2.size)
        have b4 := b3.trans (hB4.mono b3.size)
        have b5 := b4.trans (hB5.mono b4.size)
        have b6 := b5.trans (hB6.mono b5.size)
        exact b6.trans (hB7.mono b6.size)
end Go.Proofs.YtjmbkgcicdaomaaDoor.Wire
