/- The walk of WireApart: texts of one length, of which one byte alone is unlike, have unlike sums. -/
import Derived.Test.YtjmbkgcicdaomaaDoorWireShown
import Derived.Test.YtjmbkgcicdaomaaDoorKit2
import Derived.Deep.Cut
import Derived.Deep.CutRange
import Derived.Laws.Concat
namespace Go.Proofs.YtjmbkgcicdaomaaDoor.Wire
open Go.RowKit Go.Shelf

/-- A text's first n bytes. -/
def firstB (s : ByteArray) (n : Nat) : ByteArray := s.extract 0 (min s.size n)
/-- One byte alone another one. -/
def withB (s : ByteArray) (k : Nat) (c : UInt8) : ByteArray := s.extract 0 k ++ strOfNums [(c.toNat : Int)] ++ s.extract (k + 1) s.size

theorem firstB_size (s : ByteArray) (n : Nat) : (firstB s n).size = min s.size n := by
  unfold firstB; simp [ByteArray.size_extract]

theorem bytes_split (l : List UInt8) (k : Nat) (hk : k < l.length) : l = l.take k ++ l[k] :: l.drop (k + 1) := by
  rw [← List.drop_eq_getElem_cons hk, List.take_append_drop]
theorem withB_list (t : ByteArray) (k : Nat) (c : UInt8) : (withB t k c).data.toList = t.data.toList.take k ++ c :: t.data.toList.drop (k + 1) := by
  unfold withB
  have e1 : (strOfNums [(c.toNat : Int)]).data.toList = [c] := by rw [strOfNums_data]; simp
  rw [ByteArray.data_append, ByteArray.data_append, Array.toList_append, Array.toList_append, e1]
  simp [ByteArray.data_extract, List.take_of_length_le]
theorem withB_sum (t : ByteArray) (k : Nat) (hk : k < t.size) (c : UInt8) : sumN t.data.toList = sumN (withB t k c).data.toList ↔ t = withB t k c := by
  have hk' : k < t.data.toList.length := by simpa using hk
  have hl := bytes_split t.data.toList k hk'
  constructor
  · intro h
    rw [withB_list] at h
    have hc := (sumN_apart (t.data.toList.take k) (t.data.toList.drop (k + 1)) (t.data.toList[k]) c).1 (by rw [← hl]; exact h)
    have : t.data.toList = (withB t k c).data.toList := by
      rw [withB_list]
      rw [← hc]
      exact hl
    cases t
    rename_i d
    cases hw : withB { data := d } k c
    rename_i d'
    rw [hw] at this
    congr
    exact Array.toList_inj.1 this
  · intro h
    rw [← h]

set_option maxRecDepth 100000 in
set_option maxHeartbeats 2000000 in
theorem apart_any (s : ByteArray) (hs : s.size ≤ 140737488351232) (a : Int) (ha1 : -9223372036854775808 ≤ a) (ha2 : a ≤ 9223372036854775807) (c : UInt8) (ae : Addr) (w : World) (h : Env ae w) :
    Calls Tryd.prog 4 #[.string s, .int .i64 a, .int .u8 (c.toNat : Int)] w fun e w' => e = .returned (.bool true) ∧ Below w.heap.size w w' := by
  go_enter Tryd.func4, Tryd.ntmps4
  go_wp2_with fail
  refine (shown_any ae _ h).mono ?_
  rintro e w1 ⟨rfl, hB1⟩
  clear h
  go_upto_region 3 with fail
  obtain ⟨t, ht⟩ : ∃ t, t = s.extract 0 (min (s.size : Int) 300).toNat := ⟨_, rfl⟩
  have hts : t.size ≤ 300 := by rw [ht]; simp [ByteArray.size_extract]; omega
  rw [← ht]
  clear ht
  by_cases k1 : a < 0
  · go_wp2
    go_ret
    exact ⟨rfl, hB1⟩
  · by_cases k2 : (t.size : Int) ≤ a
    · go_wp2
      go_ret
      exact ⟨rfl, hB1⟩
    · obtain ⟨k, rfl⟩ := Int.eq_ofNat_of_zero_le (show 0 ≤ a by omega)
      have hk : k < t.size := by omega
      have hcv := run_convert_bytes_arg (P := Tryd.prog) (w1.alloc (.cells #[.int .u8 (c.toNat : Int)] 5)).drew 29 5 Tryd.underlying29 Tryd.underlying5 w1.heap.size 0 1 1 [(c.toNat : Int)] rfl
        (fun i hi => by obtain rfl : i = 0 := by omega
                        exact Kit.cell_new w1 _ _ 0 rfl) 9 Tryd.underlying9
      have hp1 : (t.extract 0 k).size ≤ 300 := by simp [ByteArray.size_extract]; omega
      have hp2 : (strOfNums [(c.toNat : Int)]).size = 1 := by rw [strOfNums_size]; rfl
      have hp3 : (t.extract 0 k ++ strOfNums [(c.toNat : Int)]).size ≤ 301 := by rw [ByteArray.size_append]; omega
      have hp4 : (t.extract (k + 1) t.size).size ≤ 300 := by simp [ByteArray.size_extract]; omega
      have ha1' : ∀ W, (Op.stringOp .add (t.extract 0 k) (strOfNums [(c.toNat : Int)])).run Tryd.prog W = .ok (.string (t.extract 0 k ++ strOfNums [(c.toNat : Int)])) W := fun W => run_string_add_sum _ _ _ (by omega)
      have ha2' : ∀ W, (Op.stringOp .add (t.extract 0 k ++ strOfNums [(c.toNat : Int)]) (t.extract (k + 1) t.size)).run Tryd.prog W = .ok (.string (withB t k c)) W := fun W => run_string_add_sum _ _ _ (by omega)
      have hps : (withB t k c).size ≤ 601 := by unfold withB; rw [ByteArray.size_append]; omega
      clear hp1 hp2 hp3 hp4
      have hsl2 : ∀ W, (Instr.slice 9 (.string t) (some (.int .i64 ((k : Int) + 1))) none none).run Tryd.prog W = .ok (.string (t.extract (k + 1) t.size)) W := fun W => by
        rw [run_slice_string_from_if W 9 t .i64 ((k : Int) + 1) Tryd.underlying9, if_pos ⟨by omega, by omega⟩, show ((k : Int) + 1).toNat = k + 1 from by omega]
      have hsl1 : ∀ W, (Instr.slice 9 (.string t) none (some (.int .i64 (k : Int))) none).run Tryd.prog W = .ok (.string (t.extract 0 k)) W := fun W => by
        rw [run_slice_string_to_if W 9 t .i64 (k : Int) Tryd.underlying9, if_pos ⟨by omega, by omega⟩, Int.toNat_natCast]
      have hwk : IntKind.i64.wrap ((k : Int) + 1) = (k : Int) + 1 := by rw [IntKind.wrap_i64]; omega
      go_upto_region 5 with fail
      go_cut [8] from 25 (fun s8 wc => s8 = .string (withB t k c) ∧ Below w.heap.size w wc)
      case first =>
        go_region_with (fail)
        all_goals go_wp2
        all_goals go_meet
        all_goals exact ⟨rfl, (hB1.alloc hB1.size _).drew⟩
      case rest =>
        obtain ⟨rfl, hB2⟩ := hcut
        have hxy := withB_sum t k hk c
        obtain ⟨x, hx⟩ : ∃ x, x = sumN t.data.toList := ⟨_, rfl⟩
        obtain ⟨y, hy⟩ : ∃ y, y = sumN (withB t k c).data.toList := ⟨_, rfl⟩
        have hxl : x < 4294967296 := by rw [hx]; exact sumN_lt _
        have s1 := fun W => sum_any t (by omega) W
        have s2 := fun W => sum_any (withB t k c) (by omega) W
        rw [← hx] at s1 hxy
        rw [← hy] at s2 hxy
        clear hx hy hsl1 hsl2 ha1' ha2' hcv hwk
        generalize withB t k c = t' at *
        have S1 := Lib.hid s1; clear s1
        have S2 := Lib.hid s2; clear s2
        have q1 : 0 ≤ (x : Int) := by omega
        have q2 : (x : Int) < 4294967296 := by omega
        go_wp2_with fail
        refine (S1.out _).mono ?_
        rintro e w3 ⟨rfl, hB3⟩
        by_cases hc : t = t'
        · subst hc
          have hz : ((x : Int) == (y : Int)) = true := by rw [beq_iff_eq]; have := hxy.2 rfl; omega
          have HXY := Lib.hid hxy; clear hxy
          go_wp2_with fail
          refine (S2.out _).mono ?_
          rintro e w4 ⟨rfl, hB4⟩
          go_wp2
          go_ret
          have b3 := hB2.trans (hB3.mono hB2.size)
          exact ⟨rfl, b3.trans (hB4.mono b3.size)⟩
        · have hz : ((x : Int) == (y : Int)) = false := by rw [beq_eq_false_iff_ne]; intro h; exact hc (hxy.1 (by omega))
          have HXY := Lib.hid hxy; clear hxy
          go_wp2_with fail
          refine (S2.out _).mono ?_
          rintro e w4 ⟨rfl, hB4⟩
          go_wp2
          go_ret
          have b3 := hB2.trans (hB3.mono hB2.size)
          exact ⟨Kit.ret_bool (by rw [beq_eq_false_iff_ne.2 (fun h => hc (Kit.bytes_inj h))]; rfl), b3.trans (hB4.mono b3.size)⟩
end Go.Proofs.YtjmbkgcicdaomaaDoor.Wire
