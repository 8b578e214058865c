/- The walk of WireJoins: numbers, one behind the other, are read one by one. -/
import Derived.Test.YtjmbkgcicdaomaaDoorWireShown
import Derived.Test.YtjmbkgcicdaomaaDoorKit2
import Derived.LoopTactic
import Derived.OwnWalk
import Derived.Laws.Concat
namespace Go.Proofs.YtjmbkgcicdaomaaDoor.Wire
open Go.RowKit Go.Shelf

/-- Numbers' bytes, one behind the other. -/
def joinB (l : List Int) : List UInt8 := l.flatMap numB
theorem joinB_append (l m : List Int) : joinB (l ++ m) = joinB l ++ joinB m := by simp [joinB]
theorem joinB_cons (a : Int) (l : List Int) : joinB (a :: l) = numB a ++ joinB l := by simp [joinB]
theorem joinB_len : ∀ l : List Int, (joinB l).length ≤ 10 * l.length
  | [] => by simp [joinB]
  | a :: l => by
    rw [joinB_cons, List.length_append, List.length_cons]
    have h1 := numB_len a
    have h2 := joinB_len l
    omega
theorem joinB_drop (l : List Int) (k : Nat) : (joinB l).drop (joinB (l.take k)).length = joinB (l.drop k) := by
  have h : joinB l = joinB (l.take k) ++ joinB (l.drop k) := by rw [← joinB_append, List.take_append_drop]
  rw [h, List.drop_left]
theorem joinB_take_succ (l : List Int) (k : Nat) (h : k < l.length) : joinB (l.take (k + 1)) = joinB (l.take k) ++ numB l[k] := by
  rw [List.take_succ_eq_append_getElem h, joinB_append]
  simp [joinB]
/-- What is read at the k-th number. -/
theorem read_join (l : List Int) (k : Nat) (h : k < l.length) (h1 : -9223372036854775808 ≤ l[k]) (h2 : l[k] ≤ 9223372036854775807) :
    readNumV ⟨(joinB l).toArray⟩ ((joinB (l.take k)).length : Int) = .tuple #[.int .i64 l[k], .int .i64 ((joinB (l.take (k + 1))).length : Int), .int .i64 0] := by
  have e : bytesAt ⟨(joinB l).toArray⟩ ((joinB (l.take k)).length : Int) = numB l[k] ++ joinB (l.drop (k + 1)) := by
    unfold bytesAt
    rw [if_pos (by omega), Int.toNat_natCast]
    show (joinB l).drop _ = _
    rw [joinB_drop, List.drop_eq_getElem_cons h, joinB_cons]
  unfold readNumV
  rw [e, readN_numB _ h1 h2]
  simp only
  rw [joinB_take_succ l k h, List.length_append]
  congr 3
theorem read_end (l : List Int) : readNumV ⟨(joinB l).toArray⟩ ((joinB l).length : Int) = .tuple #[.int .i64 0, .int .i64 0, .int .i64 10] := by
  have e : bytesAt ⟨(joinB l).toArray⟩ ((joinB l).length : Int) = [] := by
    apply bytesAt_end
    show ((joinB l).toArray.size : Int) ≤ _
    simp
  unfold readNumV
  rw [e, readN_nil]
theorem size_join (l : List Int) : (⟨(joinB l).toArray⟩ : ByteArray).size = (joinB l).length := by
  show (joinB l).toArray.size = _
  simp

theorem size_numB' (n : Int) : (⟨(numB n).toArray⟩ : ByteArray).size = (numB n).length := by
  show (numB n).toArray.size = _
  simp
theorem bytes_append (l m : List UInt8) : (⟨l.toArray⟩ : ByteArray) ++ ⟨m.toArray⟩ = ⟨(l ++ m).toArray⟩ := by
  apply Go.WideShapes.bytes_inj
  rw [ByteArray.data_append]
  simp

set_option maxRecDepth 100000 in
set_option maxHeartbeats 2000000 in
theorem joins_any_some (b off len cap : Nat) (zs : List Int) (hz : zs.length = len) (hlen : len ≤ 140737488351232) (hr : ∀ z ∈ zs, -9223372036854775808 ≤ z ∧ z ≤ 9223372036854775807) (ae : Addr) (w : World) (h : Env ae w) (hb : b < w.heap.size)
    (hc : ∀ i (hi : i < len), w.cell? ⟨b, off + i, none⟩ = some (.int .i64 (zs[i]'(by omega)))) :
    Calls Tryd.prog 3 #[.slice (some ⟨b, off, none⟩) len cap] w fun e w' => e = .returned (.bool true) ∧ Below w.heap.size w w' := by
  obtain ⟨m, hm⟩ : ∃ m, m = min len 30 := ⟨_, rfl⟩
  obtain ⟨L, hL⟩ : ∃ L, L = zs.take m := ⟨_, rfl⟩
  have hLl : L.length = m := by rw [hL, List.length_take]; omega
  have hLr : ∀ k (hk : k < L.length), -9223372036854775808 ≤ L[k] ∧ L[k] ≤ 9223372036854775807 := fun k hk => hr _ (by
    have h1 : L[k] ∈ L := List.getElem_mem hk
    have h2 : ∀ x, x ∈ L → x ∈ zs := fun x hx => by rw [hL] at hx; exact List.mem_of_mem_take hx
    exact h2 _ h1)
  have hLc : ∀ k (hk : k < L.length), w.cell? ⟨b, off + k, none⟩ = some (.int .i64 L[k]) := fun k hk => by
    have e : L[k] = zs[k]'(by omega) := by simp [hL]
    rw [e]
    exact hc k (by omega)
  have hm1 : m ≤ len := by omega
  have hm2 : m ≤ 30 := by omega
  have hm3 : m < len → m = 30 := by omega
  have HM3 := Lib.hid hm3
  clear hm hL hc hr hz hm3
  have hpos := h.1
  go_enter Tryd.func3, Tryd.ntmps3
  go_wp2_with fail
  refine (shown_any ae _ h).mono ?_
  rintro e w1 ⟨rfl, hB1⟩
  go_wp2_with fail
  go_loopw [4, 5] (fun s i wr => ∃ k : Nat, i = .int .i64 k ∧ k ≤ m ∧ s = .string ⟨(joinB (L.take k)).toArray⟩ ∧ Below w.heap.size w wr) (fun _ i _ => m - (intOf i).toNat)
  case atStart => exact ⟨0, rfl, by omega, by simp [joinB], hB1⟩
  case round =>
    obtain ⟨k, rfl, hk, rfl, hB⟩ := hrel
    by_cases hlt : k < m
    · have hk1 : (k : Int) < len := by omega
      have hk2 : (k : Int) < 30 := by omega
      have hkL : k < L.length := by omega
      have hcell : wr.cell? ⟨b, off + k, none⟩ = some (.int .i64 (L[k]'hkL)) := (hB.cell (p := ⟨b, off + k, none⟩) hb).trans (hLc k hkL)
      have hnum := fun W => num_any (L[k]'hkL) (hLr k hkL).1 (hLr k hkL).2 W
      have hsz := joinB_len (L.take k)
      have hn := numB_len (L[k]'hkL)
      have hadd : ∀ W, (Op.stringOp .add ⟨(joinB (L.take k)).toArray⟩ ⟨(numB (L[k]'hkL)).toArray⟩).run Tryd.prog W = .ok (.string ⟨(joinB (L.take (k + 1))).toArray⟩) W := fun W => by
        rw [run_string_add_sum _ _ _ (by rw [size_join, size_numB']; rw [List.length_take] at hsz; omega), joinB_take_succ L k hkL]
        rw [bytes_append]
      have HN := Lib.hid hnum; clear hnum hsz hn
      go_wp2_with (go_at_call 8; refine (HN.out _).mono ?_; rintro e w2 ⟨rfl, hB2⟩)
      go_roundw
      case rel => exact ⟨k + 1, by go_num, by omega, rfl, hB.trans (hB2.mono hB.size)⟩
      case measure => simp [intOf]; omega
    · obtain rfl : k = m := by omega
      have hfull : L.take k = L := List.take_of_length_le (by omega)
      rw [hfull]
      clear hfull
      have hszL := joinB_len L
      have hszJ : (⟨(joinB L).toArray⟩ : ByteArray).size ≤ 300 := by rw [size_join]; omega
      have hrd := fun (W : World) (hW : Env ae W) (a : Int) (ha : 0 ≤ a ∧ a ≤ 300) => readNum_any ⟨(joinB L).toArray⟩ (by omega) a (by omega) (by omega) ae W hW.1 hW.2
      have hR := read_join L
      have hE := read_end L
      have hsz : (⟨(joinB L).toArray⟩ : ByteArray).size = (joinB L).length := size_join L
      obtain ⟨J, hJ⟩ : ∃ J : ByteArray, J = ⟨(joinB L).toArray⟩ := ⟨_, rfl⟩
      rw [← hJ] at hrd hR hE hsz hszJ ⊢
      clear hJ
      have hJL : ∀ j, (joinB (L.take j)).length ≤ 300 := fun j => by
        have h1 := joinB_len (L.take j)
        have h2 : (L.take j).length ≤ L.length := by rw [List.length_take]; omega
        omega
      have HRD := Lib.hid hrd; clear hrd
      have HR := Lib.hid hR; clear hR
      have HE := Lib.hid hE; clear hE
      have HSZ := Lib.hid hsz; clear hsz
      have HJL := Lib.hid hJL; clear hJL
      have hEnv : ∀ W, Below w.heap.size w W → Env ae W := fun W hW => h.below hW hpos
      have HENV := Lib.hid hEnv; clear hEnv
      have HLC := Lib.hid hLc; clear hLc
      have HLR := Lib.hid hLr; clear hLr
      have hends : ((k : Int) < len ∧ ¬ (k : Int) < 30) ∨ ¬ (k : Int) < len := by
        by_cases hkl : k < len
        · have := HM3.out hkl
          exact .inl ⟨by omega, by omega⟩
        · exact .inr (by omega)
      have hpass : ∀ j : Nat, j < k → (j : Int) < len ∧ (j : Int) < 30 := fun j hj => by omega
      have HPASS := Lib.hid hpass; clear hpass
      rcases hends with ⟨hend1, hend2⟩ | hend1
      all_goals
        obtain ⟨wo, rfl⟩ : ∃ wo : World, wo = wr := ⟨_, rfl⟩
        go_wp2
        go_loopw [6, 7] (fun p i wr => ∃ j : Nat, i = .int .i64 j ∧ j ≤ k ∧ p = .int .i64 ((joinB (L.take j)).length : Int) ∧ Below w.heap.size w wr) (fun _ i _ => k - (intOf i).toNat)
        case atStart => exact ⟨0, rfl, by omega, by simp [joinB], hB⟩
        case round =>
          obtain ⟨j, rfl, hj, rfl, hB2⟩ := hrel
          by_cases hjk : j < k
          · obtain ⟨q1, q2⟩ := HPASS.out j hjk
            have hjL : j < L.length := by omega
            have hcell : wr.cell? ⟨b, off + j, none⟩ = some (.int .i64 (L[j]'hjL)) := (hB2.cell (p := ⟨b, off + j, none⟩) hb).trans (HLC.out j hjL)
            have hread := HRD.out wr (HENV.out wr hB2) ((joinB (L.take j)).length : Int) ⟨by omega, by have := HJL.out j; omega⟩
            rw [HR.out j hjL (HLR.out j hjL).1 (HLR.out j hjL).2] at hread
            have HREAD := Lib.hid hread; clear hread
            obtain ⟨p0, hp0⟩ : ∃ p0 : Nat, p0 = (joinB (L.take j)).length := ⟨_, rfl⟩
            obtain ⟨p1, hp1⟩ : ∃ p1 : Nat, p1 = (joinB (L.take (j + 1))).length := ⟨_, rfl⟩
            rw [← hp0, ← hp1] at HREAD
            rw [← hp0]
            have HP1 := Lib.hid hp1; clear hp1 hp0
            generalize (L[j]'hjL) = z at *
            go_wp2_with fail
            refine HREAD.out.mono ?_
            rintro e w2 ⟨rfl, hB3⟩
            have hB4 := hB2.trans (hB3.mono hB2.size)
            have hcell2 : w2.cell? ⟨b, off + j, none⟩ = some (.int .i64 z) := (hB3.cell (p := ⟨b, off + j, none⟩) (Nat.lt_of_lt_of_le hb hB2.size)).trans hcell
            clear hcell
            go_wp2
            go_roundw
            case rel => exact ⟨j + 1, by go_num, by omega, by rw [HP1.out], hB4⟩
            case measure => simp [intOf]; omega
          · obtain rfl : j = k := by omega
            have hfull : L.take j = L := List.take_of_length_le (by omega)
            rw [hfull]
            have hread := HRD.out wr (HENV.out wr hB2) ((joinB L).length : Int) ⟨by omega, by have := HJL.out j; rw [hfull] at this; omega⟩
            rw [HE.out] at hread
            clear hfull
            rw [← HSZ.out] at hread ⊢
            have HREAD := Lib.hid hread; clear hread
            go_wp2_with fail
            refine HREAD.out.mono ?_
            rintro e w2 ⟨rfl, hB3⟩
            go_wp2
            go_ret
            exact ⟨rfl, hB2.trans (hB3.mono hB2.size)⟩

set_option maxRecDepth 100000 in
set_option maxHeartbeats 2000000 in
theorem joins_empty (a : Option Addr) (cap : Nat) (ae : Addr) (w : World) (h : Env ae w) :
    Calls Tryd.prog 3 #[.slice a 0 cap] w fun e w' => e = .returned (.bool true) ∧ Below w.heap.size w w' := by
  have hpos := h.1
  have hrd := fun (W : World) (hW : Env ae W) => readNum_any ⟨#[]⟩ (by decide) 0 (by omega) (by omega) ae W hW.1 hW.2
  have hE : readNumV ⟨#[]⟩ 0 = .tuple #[.int .i64 0, .int .i64 0, .int .i64 10] := by kernel_rfl
  rw [hE] at hrd
  have HRD := Lib.hid hrd; clear hrd hE
  go_enter Tryd.func3, Tryd.ntmps3
  go_wp2_with fail
  refine (shown_any ae _ h).mono ?_
  rintro e w1 ⟨rfl, hB1⟩
  go_wp2_with fail
  refine wp_loop_rounds 1 ?_
  rw [rounds_succ]
  go_wp2_with fail
  refine wp_loop_rounds 1 ?_
  rw [rounds_succ]
  go_wp2_with fail
  refine (HRD.out _ (h.below hB1 hpos)).mono ?_
  rintro e w2 ⟨rfl, hB2⟩
  go_wp2
  go_ret
  exact ⟨rfl, hB1.trans (hB2.mono hB1.size)⟩
theorem joins_any_none (ae : Addr) (w : World) (h : Env ae w) : Calls Tryd.prog 3 #[.slice none 0 0] w fun e w' => e = .returned (.bool true) ∧ Below w.heap.size w w' := joins_empty none 0 ae w h
theorem joins_any_zero (a : Addr) (cap : Nat) (ae : Addr) (w : World) (h : Env ae w) : Calls Tryd.prog 3 #[.slice (some a) 0 cap] w fun e w' => e = .returned (.bool true) ∧ Below w.heap.size w w' := joins_empty (some a) cap ae w h
end Go.Proofs.YtjmbkgcicdaomaaDoor.Wire
