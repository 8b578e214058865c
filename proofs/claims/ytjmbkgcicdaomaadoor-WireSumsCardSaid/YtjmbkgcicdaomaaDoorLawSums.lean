/- The walks of the law's helper turned, and of WireSums: the sums of three texts turned by each other are that of the texts turned by each other. -/
import Derived.Test.YtjmbkgcicdaomaaDoorWireShown
import Derived.Test.YtjmbkgcicdaomaaDoorKit3
import Derived.Maps.AppendAt
import Derived.Deep.Cut
import Derived.Deep.CutRange
import Derived.LoopTactic
import Derived.OwnWalk
import Derived.Deep.LoopGhost
import Derived.StillTailTactics
namespace Go.Proofs.YtjmbkgcicdaomaaDoor.Wire
open Go.RowKit Go.Shelf

/-- Two texts, byte by byte, exclusive or. -/
def xor2 : List UInt8 → List UInt8 → List UInt8
  | a :: l, b :: m => (a ^^^ b) :: xor2 l m
  | _, _ => []
theorem xor2_len : ∀ (l m : List UInt8), (xor2 l m).length = min l.length m.length
  | [], _ => by simp [xor2]
  | _ :: _, [] => by simp [xor2]
  | a :: l, b :: m => by simp only [xor2, List.length_cons, xor2_len l m]; omega
theorem xor2_take_succ : ∀ (l m : List UInt8) (k : Nat) (h1 : k < l.length) (h2 : k < m.length), xor2 (l.take (k + 1)) (m.take (k + 1)) = xor2 (l.take k) (m.take k) ++ [l[k] ^^^ m[k]]
  | a :: l, b :: m, 0, _, _ => by simp [xor2]
  | a :: l, b :: m, k + 1, h1, h2 => by
    simp only [List.length_cons] at h1 h2
    simp only [List.take_succ_cons, xor2, List.getElem_cons_succ, List.cons_append]
    rw [xor2_take_succ l m k (by omega) (by omega)]
/-- As the cells hold them. -/
def cellsOf (l : List UInt8) : List Int := l.map fun b => (b.toNat : Int)
theorem cellsOf_len (l : List UInt8) : (cellsOf l).length = l.length := by simp [cellsOf]
theorem strOfNums_cells (l : List UInt8) : strOfNums (cellsOf l) = ⟨l.toArray⟩ := by
  unfold strOfNums cellsOf
  congr 1
  simp [List.map_map, Function.comp_def]

set_option maxRecDepth 100000 in
set_option maxHeartbeats 2000000 in
theorem turned_any (s t : ByteArray) (n : Nat) (hn : n ≤ 300) (hs : s.size = n) (ht : t.size = n) (w : World) :
    Calls Tryd.prog 11 #[.string s, .string t] w fun e w' => e = .returned (.string ⟨(xor2 s.data.toList t.data.toList).toArray⟩) ∧ Below w.heap.size w w' := by
  obtain ⟨i0, hinf, hz0, hz1, hz2⟩ := info_parts info5
  have hsl : s.data.toList.length = n := by simpa using hs
  have htl : t.data.toList.length = n := by simpa using ht
  have hs1 : (s.size : Int) ≤ n := by omega
  have hs2 : (n : Int) ≤ s.size := by omega
  have ht1 : (t.size : Int) ≤ n := by omega
  have ht2 : (n : Int) ≤ t.size := by omega
  have HSZ := Lib.hid hs
  have HTZ := Lib.hid ht
  have HSL := Lib.hid hsl
  have HTL := Lib.hid htl
  clear hs ht hsl htl
  go_enter Tryd.func11, Tryd.ntmps11
  go_wp2
  go_loopw [5, 6] (fun v i wr => ∃ k : Nat, i = .int .i64 k ∧ k ≤ n ∧ wr.ownsRow w.heap.size 5 1 v k ((cellsOf (xor2 (s.data.toList.take k) (t.data.toList.take k))).map (Value.int .u8)) ∧ Below w.heap.size w wr) (fun _ i _ => n - (intOf i).toNat)
  case atStart => exact ⟨0, rfl, by omega, by simpa [xor2, cellsOf] using World.ownsRow_nil _ _ _ _, Below.refl _ _⟩
  case round =>
    obtain ⟨k, rfl, hk, hown, hB⟩ := hrel
    by_cases hlt : k < n
    · have hks : k < s.size := by rw [HSZ.out]; exact hlt
      have hkt : k < t.size := by rw [HTZ.out]; exact hlt
      have hk1 : (k : Int) < s.size := by omega
      have hk2 : (k : Int) < t.size := by omega
      have hk3 : (k : Int) < 300 := by omega
      have hx : bits BinOp.xor IntKind.u8 (((s[k]'hks).toNat : Nat) : Int) (((t[k]'hkt).toNat : Nat) : Int) = (((s[k]'hks) ^^^ (t[k]'hkt)).toNat : Int) := by
        rw [UInt8.toNat_xor]
        exact u8_xor_nat _ _ (s[k]'hks).toNat_lt (t[k]'hkt).toNat_lt
      have hstep : xor2 (s.data.toList.take (k + 1)) (t.data.toList.take (k + 1)) = xor2 (s.data.toList.take k) (t.data.toList.take k) ++ [(s[k]'hks) ^^^ (t[k]'hkt)] :=
        xor2_take_succ _ _ k (by rw [HSL.out]; exact hlt) (by rw [HTL.out]; exact hlt)
      have HST := Lib.hid hstep; clear hstep
      go_upto_region 5 with fail
      have hsz := hB.size
      go_region_law (refine Kit.step_append_own rfl _ _ 29 rfl w.heap.size 5 i0 (.int .u8 0) 1 1 Tryd.underlying29 hinf hz0 hz1 hz2 rfl (by decide) _ _ _ rfl (hown.drew.alloc _) ⟨wr.heap.size, 0, none⟩ 1 1 [.int .u8 (((s[k]'hks) ^^^ (t[k]'hkt)).toNat : Int)] rfl rfl (cell_one_new _ _ _) (by simp [Value.oneCell']) (by unfold maxLen; omega) (by omega) (by simp; omega) ?_; intro v' w1 hown' hgrow)
      all_goals go_wp2
      all_goals
        have hl2 := (hown.drew.alloc (.cells #[.int .u8 (((s[k]'hks) ^^^ (t[k]'hkt)).toNat : Int)] 5)).lt
        have hB2 := ((hB.drew).alloc (by simp; omega) (.cells #[.int .u8 (((s[k]'hks) ^^^ (t[k]'hkt)).toNat : Int)] 5)).grown hgrow (by simp; omega) (fun j e => (hl2 j e).1)
        go_roundw
        case rel => exact ⟨k + 1, by go_num, by omega, by rw [HST.out]; simpa [cellsOf] using hown', hB2⟩
        case measure => simp [intOf]; omega
    · obtain rfl : k = n := by omega
      have e1 : s.data.toList.take k = s.data.toList := List.take_of_length_le (by rw [HSL.out]; exact Nat.le_refl _)
      have e2 : t.data.toList.take k = t.data.toList := List.take_of_length_le (by rw [HTL.out]; exact Nat.le_refl _)
      rw [e1, e2] at hown
      have hcv := Kit.conv_own (P := Tryd.prog) hown (by rw [cellsOf_len, xor2_len, HSL.out, HTL.out, Nat.min_self]) Tryd.underlying29 Tryd.underlying5 Tryd.underlying9
      rw [strOfNums_cells] at hcv
      clear e1 e2
      go_wp2
      go_ret
      exact ⟨rfl, hB⟩

theorem i64_xor_nat (a b : Nat) (ha : a < 4294967296) (hb : b < 4294967296) : bits .xor .i64 (a : Int) (b : Int) = ((a ^^^ b : Nat) : Int) := by
  have h := xor_lt ha hb
  simp only [bits, BitVec.ofInt_natCast, BitVec.toNat_xor, BitVec.toNat_ofNat]
  have e1 : a % 2 ^ IntKind.i64.bits = a := Nat.mod_eq_of_lt (Nat.lt_of_lt_of_le ha (by decide))
  have e2 : b % 2 ^ IntKind.i64.bits = b := Nat.mod_eq_of_lt (Nat.lt_of_lt_of_le hb (by decide))
  rw [e1, e2, IntKind.wrap_i64]
  omega
theorem xor2_xor3 : ∀ (l m n : List UInt8), l.length = m.length → m.length = n.length → xor2 (xor2 l m) n = xor3 l m n
  | [], [], [], _, _ => rfl
  | a :: l, b :: m, c :: n, h1, h2 => by
    simp only [xor2, xor3]
    rw [xor2_xor3 l m n (by simpa using h1) (by simpa using h2)]
  | [], _ :: _, _, h1, _ => by simp at h1
  | _ :: _, [], _, h1, _ => by simp at h1
  | [], [], _ :: _, _, h2 => by simp at h2
  | _ :: _, _ :: _, [], _, h2 => by simp at h2

set_option maxRecDepth 100000 in
set_option maxHeartbeats 2000000 in
theorem sums_any (s : ByteArray) (hs : s.size ≤ 140737488351232) (t : ByteArray) (ht : t.size ≤ 140737488351232) (u : ByteArray) (hu : u.size ≤ 140737488351232) (ae : Addr) (w : World) (h : Env ae w) :
    Calls Tryd.prog 5 #[.string s, .string t, .string u] w fun e w' => e = .returned (.bool true) ∧ Below w.heap.size w w' := by
  obtain ⟨n, hn⟩ : ∃ n : Nat, n = min (min s.size t.size) (min u.size 300) := ⟨_, rfl⟩
  have hmin : min (min (s.size : Int) (t.size : Int)) (min (u.size : Int) 300) = (n : Int) := by omega
  have sl1 : ∀ W, (Instr.slice 9 (.string s) none (some (.int .i64 (n : Int))) none).run Tryd.prog W = .ok (.string (s.extract 0 n)) W := fun W => by
    rw [run_slice_string_to_if W 9 s .i64 (n : Int) Tryd.underlying9, if_pos ⟨by omega, by omega⟩, Int.toNat_natCast]
  have sl2 : ∀ W, (Instr.slice 9 (.string t) none (some (.int .i64 (n : Int))) none).run Tryd.prog W = .ok (.string (t.extract 0 n)) W := fun W => by
    rw [run_slice_string_to_if W 9 t .i64 (n : Int) Tryd.underlying9, if_pos ⟨by omega, by omega⟩, Int.toNat_natCast]
  have sl3 : ∀ W, (Instr.slice 9 (.string u) none (some (.int .i64 (n : Int))) none).run Tryd.prog W = .ok (.string (u.extract 0 n)) W := fun W => by
    rw [run_slice_string_to_if W 9 u .i64 (n : Int) Tryd.underlying9, if_pos ⟨by omega, by omega⟩, Int.toNat_natCast]
  have z1 : (s.extract 0 n).size = n := by simp [ByteArray.size_extract]; omega
  have z2 : (t.extract 0 n).size = n := by simp [ByteArray.size_extract]; omega
  have z3 : (u.extract 0 n).size = n := by simp [ByteArray.size_extract]; omega
  have hn3 : n ≤ 300 := by omega
  clear hn hs ht hu
  generalize s.extract 0 n = S at *
  generalize t.extract 0 n = T at *
  generalize u.extract 0 n = U at *
  have c1 := fun W => sum_any S (by omega) W
  have c2 := fun W => sum_any T (by omega) W
  have c3 := fun W => sum_any U (by omega) W
  have c4 := fun W => turned_any S T n hn3 z1 z2 W
  have l1 : S.data.toList.length = n := by simpa using z1
  have l2 : T.data.toList.length = n := by simpa using z2
  have l3 : U.data.toList.length = n := by simpa using z3
  have z4 : (⟨(xor2 S.data.toList T.data.toList).toArray⟩ : ByteArray).size = n := by
    show (xor2 S.data.toList T.data.toList).toArray.size = n
    rw [List.size_toArray, xor2_len]; omega
  have c5 := fun W => turned_any ⟨(xor2 S.data.toList T.data.toList).toArray⟩ U n hn3 z4 z3 W
  have z5 : (⟨(xor2 (xor2 S.data.toList T.data.toList) U.data.toList).toArray⟩ : ByteArray).size = n := by
    show (xor2 (xor2 S.data.toList T.data.toList) U.data.toList).toArray.size = n
    rw [List.size_toArray, xor2_len, xor2_len]; omega
  have c6 := fun W => sum_any ⟨(xor2 (xor2 S.data.toList T.data.toList) U.data.toList).toArray⟩ (by omega) W
  have hsum : sumN S.data.toList ^^^ sumN T.data.toList ^^^ sumN U.data.toList = sumN (xor2 (xor2 S.data.toList T.data.toList) U.data.toList) := by
    rw [xor2_xor3 _ _ _ (by omega) (by omega)]
    exact sumN_xor3 _ _ _ (by omega) (by omega)
  have b1 := sumN_lt S.data.toList
  have b2 := sumN_lt T.data.toList
  have b3 := sumN_lt U.data.toList
  change ∀ W, Calls _ _ #[.string ⟨(xor2 S.data.toList T.data.toList).toArray⟩, .string U] W (fun e w' => e = .returned (.string ⟨(xor2 (xor2 S.data.toList T.data.toList) U.data.toList).toArray⟩) ∧ Below W.heap.size W w') at c5
  change ∀ W, Calls _ _ _ W (fun e w' => e = .returned (.int .i64 (sumN (xor2 (xor2 S.data.toList T.data.toList) U.data.toList) : Int)) ∧ Below W.heap.size W w') at c6
  generalize (⟨(xor2 (xor2 S.data.toList T.data.toList) U.data.toList).toArray⟩ : ByteArray) = R2 at *
  generalize (⟨(xor2 S.data.toList T.data.toList).toArray⟩ : ByteArray) = R1 at *
  generalize sumN (xor2 (xor2 S.data.toList T.data.toList) U.data.toList) = y at *
  generalize sumN S.data.toList = x1 at *
  generalize sumN T.data.toList = x2 at *
  generalize sumN U.data.toList = x3 at *
  have hx1 := i64_xor_nat x1 x2 b1 b2
  have hx2 := i64_xor_nat (x1 ^^^ x2) x3 (xor_lt b1 b2) b3
  rw [hsum] at hx2
  have HSUM := Lib.hid hsum
  clear hsum l1 l2 l3 z1 z2 z3 z4 z5 b1 b2 b3
  have C1 := Lib.hid c1; clear c1
  have C2 := Lib.hid c2; clear c2
  have C3 := Lib.hid c3; clear c3
  have C4 := Lib.hid c4; clear c4
  have C5 := Lib.hid c5; clear c5
  have C6 := Lib.hid c6; clear c6
  go_enter Tryd.func5, Tryd.ntmps5
  go_wp2_with fail
  refine (shown_any ae _ h).mono ?_
  rintro e w1 ⟨rfl, hB1⟩
  clear h
  go_wp2_with fail
  refine (C1.out _).mono ?_
  rintro e w2 ⟨rfl, hB2⟩
  go_wp2_with fail
  refine (C2.out _).mono ?_
  rintro e w3 ⟨rfl, hB3⟩
  go_wp2_with fail
  refine (C3.out _).mono ?_
  rintro e w4 ⟨rfl, hB4⟩
  go_wp2_with fail
  refine (C4.out _).mono ?_
  rintro e w5 ⟨rfl, hB5⟩
  go_wp2_with fail
  refine (C5.out _).mono ?_
  rintro e w6 ⟨rfl, hB6⟩
  go_wp2_with fail
  refine (C6.out _).mono ?_
  rintro e w7 ⟨rfl, hB7⟩
  go_wp2
  go_ret
  have q2 := hB1.trans (hB2.mono hB1.size)
  have q3 := q2.trans (hB3.mono q2.size)
  have q4 := q3.trans (hB4.mono q3.size)
  have q5 := q4.trans (hB5.mono q4.size)
  have q6 := q5.trans (hB6.mono q5.size)
  exact ⟨rfl, q6.trans (hB7.mono q6.size)⟩
end Go.Proofs.YtjmbkgcicdaomaaDoor.Wire
