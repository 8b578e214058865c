/- Layer 1: the walks of from and its iterator: bytes from a place on, and behind the last one that there is none. -/
import Derived.Test.YtbmhlpojgiminaaGreatDoorWireNum
import Derived.Test.YtbmhlpojgiminaaGreatDoorKit
namespace Go.Proofs.YtbmhlpojgiminaaGreatDoor.Wire
open Go.RowKit Go.Shelf

attribute [local go_sem] Oper.semAt_some

/-- The bytes from a place on. -/
def bytesAt (s : ByteArray) (at_ : Int) : List UInt8 := if 0 ≤ at_ then s.data.toList.drop at_.toNat else []
/-- What comes: each byte, then none. -/
def comes (l : List UInt8) : List (Option UInt8) := l.map some ++ [none]
def byteOf : Option UInt8 → Nat
  | some b => b.toNat
  | none => 0
def errOf (ev : Value) : Option UInt8 → Value
  | some _ => .nilIface
  | none => ev
/-- What a round is handed. ev: errWire. -/
def encB (ev : Value) (x : Option UInt8) : Array Value := #[.int .u8 (byteOf x : Int), errOf ev x]
theorem byteOf_lt (x : Option UInt8) : byteOf x < 256 := by
  cases x with
  | none => decide
  | some b => exact b.toNat_lt

theorem bytesAt_neg {s : ByteArray} {a : Int} (h : ¬ 0 ≤ a) : bytesAt s a = [] := by unfold bytesAt; rw [if_neg h]
theorem bytesAt_end {s : ByteArray} {a : Int} (h : (s.size : Int) ≤ a) : bytesAt s a = [] := by
  unfold bytesAt; split
  · apply List.drop_eq_nil_of_le; simp; omega
  · rfl
theorem bytesAt_cons {s : ByteArray} {n : Nat} (h : n < s.size) : bytesAt s (n : Int) = s[n] :: bytesAt s ((n : Int) + 1) := by
  unfold bytesAt
  rw [if_pos (by omega), if_pos (by omega)]
  have e : ((n : Int) + 1).toNat = n + 1 := by omega
  rw [e, Int.toNat_natCast, List.drop_eq_getElem_cons (by simpa using h)]
  rfl
theorem bytesAt_in {s : ByteArray} {a : Int} (h : bytesAt s a ≠ []) : 0 ≤ a ∧ a < s.size := by
  refine ⟨Decidable.byContradiction fun h0 => h (bytesAt_neg h0), Decidable.byContradiction fun h1 => h (bytesAt_end (by omega))⟩
theorem bytesAt_len (s : ByteArray) (a : Int) : (bytesAt s a).length ≤ s.size := by
  unfold bytesAt; split
  · simp
  · simp

/-- Two blocks lie as they lay. -/
def KeepB (A B : Nat) (W W' : World) : Prop := W'.heap[A]? = W.heap[A]? ∧ W'.heap[B]? = W.heap[B]?
theorem KeepB.trans {A B : Nat} {X Y Z : World} (h : KeepB A B X Y) (k : KeepB A B Y Z) : KeepB A B X Z := ⟨k.1.trans h.1, k.2.trans h.2⟩
theorem KeepB.cell1 {A B : Nat} {X Y : World} (h : KeepB A B X Y) {o : Nat} {v : Value} (hc : X.cell? ⟨A, o, none⟩ = some v) : Y.cell? ⟨A, o, none⟩ = some v := by
  unfold World.cell? at *; rw [h.1]; exact hc
theorem KeepB.cell2 {A B : Nat} {X Y : World} (h : KeepB A B X Y) {o : Nat} {v : Value} (hc : X.cell? ⟨B, o, none⟩ = some v) : Y.cell? ⟨B, o, none⟩ = some v := by
  unfold World.cell? at *; rw [h.2]; exact hc
theorem KeepB.of_grownBy {A B l : Nat} {W W' : World} (h : W.grownBy W' (some l)) (hA : A < W.heap.size) (hB : B < W.heap.size) (hAl : A ≠ l) (hBl : B ≠ l) : KeepB A B W W' :=
  ⟨h.block A hA (fun e => hAl (by cases e; rfl)), h.block B hB (fun e => hBl (by cases e; rfl))⟩
theorem KeepB.refl {A B : Nat} (W : World) : KeepB A B W W := ⟨rfl, rfl⟩
theorem KeepB.put {A B l : Nat} {W : World} {o : Obj} (hl : W.heap[l]? = some o) (hA : A < l) (hB : B < l) (o' : Obj) : KeepB A B W (W.putObj l o') := by
  have h := (Array.getElem?_eq_some_iff.1 hl).1
  exact KeepB.of_grownBy (grownBy_putObj' W l o') (by omega) (by omega) (by omega) (by omega)

set_option maxHeartbeats 400000 in
theorem from_any (s : ByteArray) (a : Int) (w : World) :
    Calls Tryz.prog 118 #[.string s, .int .i64 a] w fun e w' => e = .returned (.func (.func 132) #[] #[.pointer (some ⟨w.heap.size + 1, 0, none⟩), .pointer (some ⟨w.heap.size, 0, none⟩)]) ∧ w' = (w.alloc (.cells #[.string s] 123)).alloc (.cells #[.int .i64 a] 3) := by
  go_enter Tryz.func118, Tryz.ntmps118
  go_wp2
  go_ret
  exact ⟨rfl, rfl⟩

set_option maxRecDepth 100000 in
set_option maxHeartbeats 2000000 in
theorem from1_in (k : Nat) (hk : 1 ≤ k) (l Ba Bt : Nat) (s : ByteArray) (hs : s.size ≤ 140737488351232) (a : Int) (h1 : -9223372036854775808 ≤ a) (h2 : a ≤ 9223372036854775807) (ev : Value) (J Jx : List (Option UInt8) → World → Prop)
    (hY : ∀ pre x W, J pre W → pre.length < s.size + 1 → YieldAt Fence.wide (k - 1) Tryz.prog l (encB ev x) W fun e W' =>
      (e = .returned (.bool true) ∧ J (pre ++ [x]) W' ∧ KeepB Bt 2 W W') ∨ (e = .returned (.bool false) ∧ Jx (pre ++ [x]) W'))
    (W : World) (hBa : W.cell? ⟨Ba, 0, none⟩ = some (.int .i64 a)) (hBs : W.cell? ⟨Bt, 0, none⟩ = some (.string s)) (hE : W.cell? ⟨2, 0, none⟩ = some ev) (h0 : J [] W) :
    CallsIn Fence.wide k Tryz.prog 132 #[.func (.yield l) #[] #[], .pointer (some ⟨Ba, 0, none⟩), .pointer (some ⟨Bt, 0, none⟩)] W fun e W' => (∃ v, e = .returned v) ∧
      ((∃ ys, ys = comes (bytesAt s a) ∧ J ys W') ∨ (∃ pre, pre <+: comes (bytesAt s a) ∧ Jx pre W')) := by
  refine callsIn_of_wp Tryz.func132 rfl trivial ?_ rfl
  simp only [Tryz.ntmps132, List.size_toArray, List.length_cons, List.length_nil, Nat.reduceAdd, Nat.reduceSub, Array.replicate_succ, Array.replicate_zero, List.push_toArray, List.append_toArray, List.nil_append, List.cons_append]
  gi_wp2
  gi_loopw [4] (fun p wr => ∃ (pre : List (Option UInt8)) (i : Int), p = .int .i64 i ∧ comes (bytesAt s a) = pre ++ comes (bytesAt s i) ∧ -9223372036854775808 ≤ i ∧ i ≤ 9223372036854775807 ∧ pre.length + (bytesAt s i).length ≤ s.size ∧ wr.cell? ⟨Bt, 0, none⟩ = some (.string s) ∧ wr.cell? ⟨2, 0, none⟩ = some ev ∧ J pre wr)
    (fun p _ => (s.size - (intOf p).toNat))
  case atStart =>
    exact ⟨[], a, rfl, rfl, h1, h2, by simpa using bytesAt_len s a, hBs, hE, h0⟩
  case round =>
    obtain ⟨pre, i, rfl, hx, hi1, hi2, hl, hc, he, hJs⟩ := hrel
    by_cases hin : 0 ≤ i ∧ i < s.size
    · obtain ⟨hi0, hi3⟩ := hin
      obtain ⟨n, rfl⟩ := Int.eq_ofNat_of_zero_le hi0
      have hn : n < s.size := by omega
      obtain ⟨fn, tmps, assign, body, hy, hR⟩ := hY pre (some s[n]) wr hJs (by omega)
      dsimp only [encB, byteOf, errOf] at hy
      have hX : comes (bytesAt s a) = pre ++ [some s[n]] ++ comes (bytesAt s ((n : Int) + 1)) := by rw [hx, bytesAt_cons hn]; simp [comes]
      have hL : (pre ++ [some s[n]]).length + (bytesAt s ((n : Int) + 1)).length ≤ s.size := by
        rw [bytesAt_cons hn] at hl; simp at hl ⊢; omega
      have HX := Lib.hid hX; clear hX hx
      have HL := Lib.hid hL; clear hL hl
      have HC := Lib.hid hc
      have HE := Lib.hid he; clear he
      gi_wp2
      refine hR.mono ?_
      rintro e W3 (⟨rfl, hJ3, hk3⟩ | ⟨rfl, hJx3⟩)
      · gi_wp2
        go_roundw
        case rel => exact ⟨_, (n : Int) + 1, rfl, HX.out, by omega, by omega, HL.out, hk3.cell1 HC.out, hk3.cell2 HE.out, hJ3⟩
        case measure => simp [intOf]; omega
      · gi_wp2
        refine bodyPost_ret (results_none rfl _ _ _) rfl ?_
        exact ⟨⟨_, rfl⟩, .inr ⟨_, by rw [HX.out]; exact List.prefix_append _ _, hJx3⟩⟩
    · have hnil : bytesAt s i = [] := by
        by_cases hi0 : 0 ≤ i
        · exact bytesAt_end (by omega)
        · exact bytesAt_neg hi0
      obtain ⟨fn, tmps, assign, body, hy, hR⟩ := hY pre none wr hJs (by rw [hnil] at hl; simp at hl; omega)
      dsimp only [encB, byteOf, errOf] at hy
      rw [show (((0 : Nat)) : Int) = 0 from rfl] at hy
      have hX : comes (bytesAt s a) = pre ++ [none] := by rw [hx, hnil]; rfl
      have HX := Lib.hid hX; clear hX hx hnil hl
      by_cases hi0 : 0 ≤ i
      · have hi3 : ¬ i < s.size := fun h => hin ⟨hi0, h⟩
        clear hin
        gi_wp2
        refine hR.mono ?_
        rintro e W3 (⟨rfl, hJ3, hk3⟩ | ⟨rfl, hJx3⟩)
        · gi_wp2
          go_end0
          exact ⟨⟨_, rfl⟩, .inl ⟨_, HX.out.symm, hJ3⟩⟩
        · gi_wp2
          go_end0
          exact ⟨⟨_, rfl⟩, .inr ⟨_, by rw [HX.out]; exact List.prefix_refl _, hJx3⟩⟩
      · clear hin
        gi_wp2
        refine hR.mono ?_
        rintro e W3 (⟨rfl, hJ3, hk3⟩ | ⟨rfl, hJx3⟩)
        · gi_wp2
          go_end0
          exact ⟨⟨_, rfl⟩, .inl ⟨_, HX.out.symm, hJ3⟩⟩
        · gi_wp2
          go_end0
          exact ⟨⟨_, rfl⟩, .inr ⟨_, by rw [HX.out]; exact List.prefix_refl _, hJx3⟩⟩

/-- from hands back a value that stops. -/
theorem from_stops (k : Nat) (hk : 1 ≤ k) (Ba Bt : Nat) (s : ByteArray) (hs : s.size ≤ 140737488351232) (a : Int) (h1 : -9223372036854775808 ≤ a) (h2 : a ≤ 9223372036854775807) (ev : Value) (w : World) (h0 : 2 < w.heap.size)
    (hBa : w.cell? ⟨Ba, 0, none⟩ = some (.int .i64 a)) (hBs : w.cell? ⟨Bt, 0, none⟩ = some (.string s)) (hE : w.cell? ⟨2, 0, none⟩ = some ev) (ha : Ba < w.heap.size) (ht : Bt < w.heap.size) :
    SeqStopsK Fence.wide k Tryz.prog 132 #[.pointer (some ⟨Ba, 0, none⟩), .pointer (some ⟨Bt, 0, none⟩)] (encB ev) (KeepB Bt 2) (fun ys => ys = comes (bytesAt s a)) (fun pre => pre <+: comes (bytesAt s a)) (s.size + 1) w := fun l J Jx W hW _ _ hY hJ0 =>
  from1_in k hk l Ba Bt s hs a h1 h2 ev J Jx hY W ((hW.cell (p := ⟨Ba, 0, none⟩) ha).trans hBa) ((hW.cell (p := ⟨Bt, 0, none⟩) ht).trans hBs) ((hW.cell (p := ⟨2, 0, none⟩) h0).trans hE) hJ0
end Go.Proofs.YtbmhlpojgiminaaGreatDoor.Wire
