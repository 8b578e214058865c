/- Layer 3: the reader of runes: its functions. -/
import Derived.Test.YtbmhlpojgiminaaGreatDoorValEnc
import Derived.Test.YtbmhlpojgiminaaGreatDoorValRd2
import Derived.Test.YtbmhlpojgiminaaGreatDoorKit8
import Derived.Lib.ValidAsc
import Derived.Lib.ValidU
import Derived.Laws.EntriesVeiled
namespace Go.Proofs.YtbmhlpojgiminaaGreatDoor.Val
open Go.RowKit
open Kit (ret_int ret_bool Moved)

/-- The rune that is here, and how many bytes it has; -1, where none is. -/
def lookN (l : List UInt8) : Int × Nat := if l = [] then (-1, 0) else if (Lib.decodeL l).1 = 65533 ∧ (Lib.decodeL l).2 < 2 then (-1, (Lib.decodeL l).2) else ((Lib.decodeL l).1, (Lib.decodeL l).2)
/-- What is left of a text from a place on. -/
def rest (s : ByteArray) (a : Nat) : List UInt8 := s.data.toList.drop a
def hereN (s : ByteArray) (a : Nat) : Int := (lookN (rest s a)).1
def stepN (s : ByteArray) (a : Nat) : Nat := a + (lookN (rest s a)).2
theorem rest_len (s : ByteArray) (a : Nat) : (rest s a).length = s.size - a := by unfold rest; rw [List.length_drop, data_len]

theorem decodeN_le (n b0 b1 b2 b3 : Nat) (hn : 1 ≤ n) : (Lib.decodeN n b0 b1 b2 b3).2 ≤ n := by
  unfold Lib.decodeN
  repeat' split
  all_goals first | exact hn | (dsimp only; omega)
theorem decodeL_le (l : List UInt8) (h : l ≠ []) : (Lib.decodeL l).2 ≤ l.length := by
  unfold Lib.decodeL
  change (Utf8.decode (bs l) 0).2 ≤ _
  rw [Lib.decode_at]
  have h1 : (bs l).size = l.length := bs_size l
  have h2 := List.length_pos_iff.2 h
  have := decodeN_le ((bs l).size - 0) ((bs l).get! 0).toNat ((bs l).get! (0 + 1)).toNat ((bs l).get! (0 + 2)).toNat ((bs l).get! (0 + 3)).toNat (by omega)
  omega
theorem lookN_le (l : List UInt8) : (lookN l).2 ≤ l.length := by
  unfold lookN
  split
  · exact Nat.zero_le _
  · rename_i h
    have := decodeL_le l h
    split <;> exact this
theorem lookN_range (l : List UInt8) : -1 ≤ (lookN l).1 ∧ (lookN l).1 ≤ 1114111 := by
  unfold lookN
  have := Lib.decodeL_rune l
  split
  · exact ⟨Int.le_refl _, by decide⟩
  · split
    · exact ⟨Int.le_refl _, by show (-1 : Int) ≤ 1114111; decide⟩
    · exact ⟨by dsimp only; omega, by dsimp only; omega⟩

/-- What the functions of a reader of runes share: the text, the place, and the first of them. -/
structure RT (ae : Addr) (w0 : World) (bl s0 ba : Nat) (s : ByteArray) (a : Nat) (w : World) : Prop where
  env : Env ae w0
  below : Below w0.heap.size w0 w
  geL : w0.heap.size ≤ bl
  geS : w0.heap.size ≤ s0
  geA : w0.heap.size ≤ ba
  la : bl ≠ ba
  sa : s0 ≠ ba
  size : s.size ≤ 140737488351232
  hi : a ≤ s.size
  boxL : Boxed w bl 92 (.func (.func 77) #[] #[.pointer (some ⟨s0, 0, none⟩), .pointer (some ⟨ba, 0, none⟩)])
  boxS : Boxed w s0 9 (.string s)
  boxA : Boxed w ba 3 (.int .i64 (a : Int))
theorem RT.moved {ae : Addr} {w0 : World} {bl s0 ba : Nat} {s : ByteArray} {a : Nat} {w w' : World} {S : Nat → Prop} (h : RT ae w0 bl s0 ba s a w) (hm : Moved S w w') (h1 : ∀ k, S k → w0.heap.size ≤ k) (he : ¬ S bl) (h2 : ¬ S s0) (ha : ¬ S ba) : RT ae w0 bl s0 ba s a w' :=
  { h with below := Kit.Moved.below0 h.below hm h1 h.below.size, boxL := Kit.boxed_moved h.boxL hm he, boxS := Kit.boxed_moved h.boxS hm h2, boxA := Kit.boxed_moved h.boxA hm ha }
theorem RT.later {ae : Addr} {w0 : World} {bl s0 ba : Nat} {s : ByteArray} {a : Nat} {w w' : World} (h : RT ae w0 bl s0 ba s a w) (hB : Below w.heap.size w w') : RT ae w0 bl s0 ba s a w' :=
  h.moved (Kit.Moved.of_below hB) (fun k hk => by have := h.below.size; omega) (by have := h.boxL.lt; omega) (by have := h.boxS.lt; omega) (by have := h.boxA.lt; omega)
theorem RT.Env {ae : Addr} {w0 : World} {bl s0 ba : Nat} {s : ByteArray} {a : Nat} {w : World} (h : RT ae w0 bl s0 ba s a w) : Env ae w := h.env.below h.below
theorem RT.set {ae : Addr} {w0 : World} {bl s0 ba : Nat} {s : ByteArray} {a b : Nat} {w w1 : World} (h : RT ae w0 bl s0 ba s a w) (hB : Below w.heap.size w w1) (hh : b ≤ s.size) :
    RT ae w0 bl s0 ba s b (w1.setCell ⟨ba, 0, none⟩ (.int .i64 (b : Int))) ∧ Moved (fun k => k = ba) w (w1.setCell ⟨ba, 0, none⟩ (.int .i64 (b : Int))) := by
  have h1 := h.later hB
  have m1 : Moved (fun k => k = ba) w1 (w1.setCell ⟨ba, 0, none⟩ (.int .i64 (b : Int))) := Kit.Moved.setCell _ _ _ _ rfl
  refine ⟨{ h1 with hi := hh, below := Kit.Moved.below0 h1.below m1 (fun k hk => by rw [hk]; exact h.geA) h1.below.size, boxL := h1.boxL.other h.la _, boxS := h1.boxS.other h.sa _, boxA := h1.boxA.set _ }, ?_⟩
  exact ((Kit.Moved.of_below hB).mono (T := fun k => k = ba) (fun i hi hs => by omega)).trans m1 (fun _ _ h => h)

theorem decode_rest (s : ByteArray) (a : Nat) : Lib.decodeGo (s.extract a s.size) = if rest s a = [] then (65533, 0) else Lib.decodeL (rest s a) := by
  unfold Lib.decodeGo Lib.decodeL
  have he : (s.extract a s.size).data.toList = rest s a := Lib.ext_list s a
  have hb : s.extract a s.size = bs (rest s a) := by rw [← he, bs_data]
  rw [hb, bs_size, rest_len]
  by_cases h : rest s a = []
  · rw [if_pos h, if_pos]
    rw [← rest_len, h]; rfl
  · rw [if_neg h, if_neg]
    intro h2
    rw [← rest_len] at h2
    exact h (List.eq_nil_of_length_eq_zero h2)

set_option maxRecDepth 100000 in
set_option maxHeartbeats 1000000 in
theorem look_any (ae : Addr) (w0 : World) (bl s0 ba : Nat) (s : ByteArray) (a : Nat) (w : World) (h : RT ae w0 bl s0 ba s a w) :
    Calls Tryz.prog 77 #[.pointer (some ⟨s0, 0, none⟩), .pointer (some ⟨ba, 0, none⟩)] w fun e w' => e = .returned (.tuple #[.int .i32 (hereN s a), .int .i64 ((lookN (rest s a)).2 : Int)]) ∧ Below w.heap.size w w' := by
  have cS := h.boxS.cell
  have cA := h.boxA.cell
  have hD := Tryz.utf8_DecodeRuneInString (s.extract a s.size) w h.Env.tabs
  rw [decode_rest] at hD
  have hi := h.hi
  have hsz := h.size
  have hsl : ∀ W, (Instr.slice 9 (.string s) (some (.int .i64 (a : Int))) none none).run Tryz.prog W = .ok (.string (s.extract a s.size)) W := fun W => by
    rw [run_slice_string_from_if W 9 s .i64 (a : Int) Tryz.underlying9, if_pos ⟨by omega, by omega⟩, Int.toNat_natCast]
  unfold hereN lookN
  by_cases hr : rest s a = []
  · rw [if_pos hr] at hD ⊢
    have HD := Lib.hid hD
    clear h hD hr
    go_enter Tryz.func77, Tryz.ntmps77
    go_wp2_with fail
    refine HD.out.mono ?_; rintro e w' ⟨rfl, hB⟩
    go_wp2
    go_ret2
    exact ⟨rfl, hB⟩
  · rw [if_neg hr] at hD ⊢
    generalize Lib.decodeL (rest s a) = D at *
    obtain ⟨c, z⟩ := D
    have HD := Lib.hid hD
    clear h hD hr
    by_cases h1 : c = 65533
    · subst h1
      by_cases h2 : z < 2
      · rw [if_pos ⟨rfl, h2⟩]
        have h3 : (z : Int) < 2 := by omega
        go_enter Tryz.func77, Tryz.ntmps77
        go_wp2_with fail
        refine HD.out.mono ?_; rintro e w' ⟨rfl, hB⟩
        go_wp2
        go_ret2
        exact ⟨rfl, hB⟩
      · rw [if_neg (fun h => h2 h.2)]
        have h3 : ¬ (z : Int) < 2 := by omega
        go_enter Tryz.func77, Tryz.ntmps77
        go_wp2_with fail
        refine HD.out.mono ?_; rintro e w' ⟨rfl, hB⟩
        go_wp2
        go_ret2
        exact ⟨rfl, hB⟩
    · rw [if_neg (fun h => h1 h.1)]
      have h3 : ((c : Int) == 65533) = false := by simp; omega
      clear h1
      go_enter Tryz.func77, Tryz.ntmps77
      go_wp2_with fail
      refine HD.out.mono ?_; rintro e w' ⟨rfl, hB⟩
      go_wp2
      go_ret2
      exact ⟨rfl, hB⟩

theorem stepN_le (s : ByteArray) (a : Nat) (h : a ≤ s.size) : stepN s a ≤ s.size := by
  unfold stepN
  have := lookN_le (rest s a)
  rw [rest_len] at this
  omega

theorem here_any (ae : Addr) (w0 : World) (bl s0 ba : Nat) (s : ByteArray) (a : Nat) (w : World) (h : RT ae w0 bl s0 ba s a w) :
    Calls Tryz.prog 79 #[.pointer (some ⟨bl, 0, none⟩)] w fun e w' => e = .returned (.int .i32 (hereN s a)) ∧ Below w.heap.size w w' := by
  have HL := Lib.hid (look_any ae w0 bl s0 ba s a w h)
  have cL := h.boxL.cell
  clear h
  go_enter Tryz.func79, Tryz.ntmps79
  go_wp2_with fail
  refine HL.out.mono ?_; rintro e w' ⟨rfl, hB⟩
  go_wp2
  go_ret
  exact ⟨rfl, hB⟩

set_option maxRecDepth 100000 in
theorem step_any (ae : Addr) (w0 : World) (bl s0 ba : Nat) (s : ByteArray) (a : Nat) (w : World) (h : RT ae w0 bl s0 ba s a w) :
    Calls Tryz.prog 80 #[.pointer (some ⟨bl, 0, none⟩), .pointer (some ⟨ba, 0, none⟩)] w fun e w' => (∃ v, e = .returned v) ∧ RT ae w0 bl s0 ba s (stepN s a) w' ∧ Moved (fun k => k = ba) w w' := by
  have HL := Lib.hid (look_any ae w0 bl s0 ba s a w h)
  have cL := h.boxL.cell
  have hle := stepN_le s a h.hi
  have hsz := h.size
  have HS := Lib.hid (fun w1 hB => h.set (w1 := w1) (b := stepN s a) hB hle)
  have HH := Lib.hid h
  have hst : ((a : Int) + ((lookN (rest s a)).2 : Int)) = ((stepN s a : Nat) : Int) := by unfold stepN; omega
  have hb1 : (a : Int) + ((lookN (rest s a)).2 : Int) ≤ 140737488351232 := by omega
  have HST := Lib.hid hst
  clear h hst hle
  go_enter Tryz.func80, Tryz.ntmps80
  go_wp2_with fail
  refine HL.out.mono ?_; rintro e w1 ⟨rfl, hB⟩
  have cA := (HH.out.later hB).boxA.cell
  have fA := (HH.out.later hB).boxA.frozen
  have HS2 := HS.out w1 hB
  rw [← HST.out] at HS2
  have HS3 := Lib.hid HS2
  clear HS2 cL hB
  go_wp2
  go_end0
  exact ⟨⟨_, rfl⟩, HS3.out.1, HS3.out.2⟩

/-- A reader of runes over its boxes. -/
abbrev rf3 (bl : Nat) : Value := .func (.func 79) #[] #[.pointer (some ⟨bl, 0, none⟩)]
abbrev rf4 (bl ba : Nat) : Value := .func (.func 80) #[] #[.pointer (some ⟨bl, 0, none⟩), .pointer (some ⟨ba, 0, none⟩)]
abbrev rf5 (ba : Nat) : Value := .func (.func 81) #[] #[.pointer (some ⟨ba, 0, none⟩)]
abbrev ruV (bl ba : Nat) : Value := .agg #[rf3 bl, rf4 bl ba, rf5 ba]

theorem place_any (ba : Nat) (a : Nat) (w : World) (h : w.cell? ⟨ba, 0, none⟩ = some (.int .i64 (a : Int))) :
    Calls Tryz.prog 81 #[.pointer (some ⟨ba, 0, none⟩)] w fun e w' => e = .returned (.int .i64 (a : Int)) ∧ w = w' := by
  go_enter Tryz.func81, Tryz.ntmps81
  go_wp2
  go_ret
  exact ⟨rfl, rfl⟩

theorem rt_new (ae : Addr) (s : ByteArray) (hs : s.size ≤ 140737488351232) (a : Nat) (h1 : a ≤ s.size) (w : World) (hE : Env ae w) (C : Obj) :
    RT ae w (w.heap.size + 3) w.heap.size (w.heap.size + 1) s a ((((w.alloc (.cells #[.string s] 9)).alloc (.cells #[.int .i64 (a : Int)] 3)).alloc C).alloc (.cells #[.func (.func 77) #[] #[.pointer (some ⟨w.heap.size, 0, none⟩), .pointer (some ⟨w.heap.size + 1, 0, none⟩)]] 92)) := by
  refine ⟨hE, ?_, by omega, by omega, by omega, by omega, by omega, hs, h1, ?_, ?_, ?_⟩
  · exact (((Kit.below_alloc2 w _ _).alloc (by simp; omega) _).alloc (by simp; omega) _)
  · have h := Boxed.new (((w.alloc (.cells #[.string s] 9)).alloc (.cells #[.int .i64 (a : Int)] 3)).alloc C) 92 (.func (.func 77) #[] #[.pointer (some ⟨w.heap.size, 0, none⟩), .pointer (some ⟨w.heap.size + 1, 0, none⟩)])
    rw [World.size_alloc, World.size_alloc, World.size_alloc] at h
    exact h
  · exact (((Boxed.new w 9 (.string s)).alloc _).alloc _).alloc _
  · have h := Boxed.new (w.alloc (.cells #[.string s] 9)) 3 (.int .i64 (a : Int))
    rw [World.size_alloc] at h
    exact (h.alloc _).alloc _

set_option maxRecDepth 100000 in
set_option maxHeartbeats 1000000 in
theorem newRunes_any (ae : Addr) (s : ByteArray) (hs : s.size ≤ 140737488351232) (a : Nat) (h1 : a ≤ s.size) (w : World) (hE : Env ae w) :
    Calls Tryz.prog 54 #[.string s, .int .i64 (a : Int)] w fun e w' => e = .returned (ruV (w.heap.size + 3) (w.heap.size + 1)) ∧ RT ae w (w.heap.size + 3) w.heap.size (w.heap.size + 1) s a w' := by
  have HE := Lib.hid hE
  clear hE
  go_enter Tryz.func54, Tryz.ntmps54
  go_wp2
  refine bodyPost_ret (v := ruV (w.heap.size + 3) (w.heap.size + 1)) (by simp [results, Tryz.results54, go_sem]) rfl ⟨rfl, ?_⟩
  exact rt_new ae s hs a h1 w HE.out _

set_option maxRecDepth 100000 in
set_option maxHeartbeats 1000000 in
/-- Going behind a rune, if it is here. -/
theorem skip_any (ae : Addr) (w0 : World) (bl s0 ba : Nat) (s : ByteArray) (a : Nat) (c : Int) (w : World) (h : RT ae w0 bl s0 ba s a w) :
    Calls Tryz.prog 82 #[ruV bl ba, .int .i32 c] w fun e w' => e = .returned (.bool (hereN s a == c)) ∧ RT ae w0 bl s0 ba s (if hereN s a == c then stepN s a else a) w' ∧ Moved (fun k => k = ba) w w' := by
  obtain ⟨W0, hW0⟩ : ∃ W0, W0 = w.alloc (.cells #[rf3 bl, rf4 bl ba, rf5 ba] 69) := ⟨_, rfl⟩
  have hB : Below w.heap.size w W0 := by rw [hW0]; exact Kit.below_alloc _ _
  have c0 : W0.cell? ⟨w.heap.size, 0, none⟩ = some (rf3 bl) := by rw [hW0]; exact Kit.cell_new _ _ _ 0 rfl
  have c1 : W0.cell? ⟨w.heap.size, 1, none⟩ = some (rf4 bl ba) := by rw [hW0]; exact Kit.cell_new _ _ _ 1 rfl
  have HH := Lib.hid (here_any ae w0 bl s0 ba s a W0 (h.later hB))
  have HR := Lib.hid (And.intro (h.later hB) hB)
  have hba := h.boxA.lt
  have hlt : w.heap.size < W0.heap.size := Kit.lt_of_cell c0
  clear h hB
  cases hc : hereN s a == c
  · simp only [Bool.false_eq_true, if_false]
    have hc2 : (hereN s a != c) = true := by simpa using hc
    go_enter Tryz.func82, Tryz.ntmps82
    go_wp2_with fail
    rw [← hW0]
    refine HH.out.mono ?_; rintro e w1 ⟨rfl, hB1⟩
    go_wp2
    go_ret
    exact ⟨rfl, HR.out.1.later hB1, ((Kit.Moved.of_below (HR.out.2.trans (hB1.mono (by omega)))).mono (T := fun k => k = ba) (fun i hi hs => by omega))⟩
  · simp only [if_true]
    have hc2 : (hereN s a != c) = false := by simpa using hc
    go_enter Tryz.func82, Tryz.ntmps82
    go_wp2_with fail
    rw [← hW0]
    refine HH.out.mono ?_; rintro e w1 ⟨rfl, hB1⟩
    have d1 := (hB1.cell (p := ⟨w.heap.size, 1, none⟩) hlt).trans c1
    have HS := Lib.hid (step_any ae w0 bl s0 ba s a w1 (HR.out.1.later hB1))
    have hB2 : Below w.heap.size w w1 := HR.out.2.trans (hB1.mono (by omega))
    have HB2 := Lib.hid hB2
    clear hB1 c0 c1 hW0 hB2
    go_wp2_with fail
    refine HS.out.mono ?_; rintro e w2 ⟨⟨v, rfl⟩, hR2, hM2⟩
    go_wp2
    go_ret
    exact ⟨rfl, hR2, ((Kit.Moved.of_below HB2.out).mono (T := fun k => k = ba) (fun i hi hs => by omega)).trans hM2 (fun _ _ h => h)⟩

set_option maxRecDepth 100000 in
set_option maxHeartbeats 1000000 in
/-- What is here, which it goes behind. -/
theorem next_any (ae : Addr) (w0 : World) (bl s0 ba : Nat) (s : ByteArray) (a : Nat) (w : World) (h : RT ae w0 bl s0 ba s a w) :
    Calls Tryz.prog 116 #[ruV bl ba] w fun e w' => e = .returned (.int .i32 (hereN s a)) ∧ RT ae w0 bl s0 ba s (stepN s a) w' ∧ Moved (fun k => k = ba) w w' := by
  obtain ⟨W0, hW0⟩ : ∃ W0, W0 = w.alloc (.cells #[rf3 bl, rf4 bl ba, rf5 ba] 69) := ⟨_, rfl⟩
  have hB : Below w.heap.size w W0 := by rw [hW0]; exact Kit.below_alloc _ _
  have c0 : W0.cell? ⟨w.heap.size, 0, none⟩ = some (rf3 bl) := by rw [hW0]; exact Kit.cell_new _ _ _ 0 rfl
  have c1 : W0.cell? ⟨w.heap.size, 1, none⟩ = some (rf4 bl ba) := by rw [hW0]; exact Kit.cell_new _ _ _ 1 rfl
  have HH := Lib.hid (here_any ae w0 bl s0 ba s a W0 (h.later hB))
  have HR := Lib.hid (And.intro (h.later hB) hB)
  have hba := h.boxA.lt
  have hlt : w.heap.size < W0.heap.size := Kit.lt_of_cell c0
  clear h hB
  go_enter Tryz.func116, Tryz.ntmps116
  go_wp2_with fail
  rw [← hW0]
  refine HH.out.mono ?_; rintro e w1 ⟨rfl, hB1⟩
  have d1 := (hB1.cell (p := ⟨w.heap.size, 1, none⟩) hlt).trans c1
  have HS := Lib.hid (step_any ae w0 bl s0 ba s a w1 (HR.out.1.later hB1))
  have hB2 : Below w.heap.size w w1 := HR.out.2.trans (hB1.mono (by omega))
  have HB2 := Lib.hid hB2
  clear hB1 c0 c1 hW0 hB2
  go_wp2_with fail
  refine HS.out.mono ?_; rintro e w2 ⟨⟨v, rfl⟩, hR2, hM2⟩
  go_wp2
  go_ret
  exact ⟨rfl, hR2, ((Kit.Moved.of_below HB2.out).mono (T := fun k => k = ba) (fun i hi hs => by omega)).trans hM2 (fun _ _ h => h)⟩
end Go.Proofs.YtbmhlpojgiminaaGreatDoor.Val
