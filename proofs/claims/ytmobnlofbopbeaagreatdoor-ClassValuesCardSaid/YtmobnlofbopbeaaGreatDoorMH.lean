/- Layer 4: the reader: one part behind the other. -/
import Derived.Test.YtmobnlofbopbeaaGreatDoorMG
import Derived.Test.YtmobnlofbopbeaaGreatDoorKit7
import Derived.Deep.RegionHeld3
import Derived.Deep.RegionLaw
import Derived.Test.YtmobnlofbopbeaaGreatDoorKit8
namespace Go.Proofs.YtmobnlofbopbeaaGreatDoor.Cls
open Go.RowKit
open Kit (ret_int ret_bool Moved)
open Val (Env flat bs Vl Rep RepL)
open Wire (readN readT bytesAt readNumV readTextV)

attribute [local go_sem] Oper.semAt_some

/-- A number is read. -/
def takeI (s : ByteArray) (st : Int × Int) : Int × Int × Int :=
  if st.2 ≠ 0 then (0, st) else match readN (bytesAt s st.1) with
    | none => (0, 0, 10)
    | some r => (r.1, st.1 + (r.2 : Int), 0)
/-- A text is read. -/
def takeT (s : ByteArray) (st : Int × Int) : ByteArray × Int × Int :=
  if st.2 ≠ 0 then (⟨#[]⟩, st) else match readT s st.1 with
    | none => (⟨#[]⟩, 0, 10)
    | some r => (r.1, r.2, 0)
theorem takeI_V (s : ByteArray) (a : Int) : readNumV s a = .tuple #[.int .i64 (takeI s (a, 0)).1, .int .i64 (takeI s (a, 0)).2.1, .int .i64 (takeI s (a, 0)).2.2] := by
  unfold readNumV takeI
  rw [if_neg (by simp)]
  cases readN (bytesAt s a) <;> rfl
theorem takeT_V (s : ByteArray) (a : Int) : readTextV s a = .tuple #[.string (takeT s (a, 0)).1, .int .i64 (takeT s (a, 0)).2.1, .int .i64 (takeT s (a, 0)).2.2] := by
  unfold readTextV takeT
  rw [if_neg (by simp)]
  simp only
  cases readT s a <;> rfl
/-- A place, and what is told, are numbers of the machine. -/
def In64 (st : Int × Int) : Prop := -9223372036854775808 ≤ st.1 ∧ st.1 ≤ 9223372036854775807
theorem bytesAt_neg {s : ByteArray} {a : Int} (h : a < 0) : bytesAt s a = [] := by unfold bytesAt; rw [if_neg (by omega)]
theorem bytesAt_len {s : ByteArray} {a : Int} (h : 0 ≤ a) : ((bytesAt s a).length : Int) ≤ (s.size : Int) - a ∨ bytesAt s a = [] := by
  unfold bytesAt
  rw [if_pos h]
  have := Val.data_len s
  by_cases h2 : a ≤ (s.size : Int)
  · left; simp; omega
  · right; simp; omega
theorem takeI_in {s : ByteArray} (hs : s.size ≤ 140737488351232) {st : Int × Int} (h : In64 st) : In64 (takeI s st).2 := by
  unfold takeI
  split
  · exact h
  · cases hr : readN (bytesAt s st.1) with
    | none => exact ⟨by simp, by simp⟩
    | some r =>
      have hl := Wire.readN_len (n := r.1) (k := r.2) hr
      have hp : 0 ≤ st.1 := by
        rcases Int.lt_or_le st.1 0 with h1 | h1
        · rw [bytesAt_neg h1, Wire.readN_nil] at hr; cases hr
        · exact h1
      rcases bytesAt_len (s := s) hp with h1 | h1
      · exact ⟨by simp; omega, by simp; omega⟩
      · rw [h1, Wire.readN_nil] at hr; cases hr
theorem takeT_in {s : ByteArray} (hs : s.size ≤ 140737488351232) {st : Int × Int} (h : In64 st) : In64 (takeT s st).2 := by
  unfold takeT
  split
  · exact h
  · cases hr : readT s st.1 with
    | none => exact ⟨by simp, by simp⟩
    | some r =>
      unfold readT at hr
      cases hn : readN (bytesAt s st.1) with
      | none => rw [hn] at hr; cases hr
      | some q =>
        rw [hn] at hr
        simp only at hr
        split at hr
        · rename_i hq
          cases hr
          have hp : 0 ≤ st.1 := by
            rcases Int.lt_or_le st.1 0 with h1 | h1
            · rw [bytesAt_neg h1, Wire.readN_nil] at hn; cases hn
            · exact h1
          exact ⟨by simp; omega, by simp; omega⟩
        · cases hr

/-- What lies in memory while it is read: the reader in block rb. -/
structure RC (ae : Addr) (w0 : World) (rb : Nat) (s : ByteArray) (st : Int × Int) (w : World) : Prop where
  env : Env ae w0
  below : Below w0.heap.size w0 w
  ge : w0.heap.size ≤ rb
  size : s.size ≤ 140737488351232
  in64 : In64 st
  c0 : w.cell? ⟨rb, 0, none⟩ = some (.string s)
  c1 : w.cell? ⟨rb, 1, none⟩ = some (.int .i64 st.1)
  c2 : w.cell? ⟨rb, 2, none⟩ = some (.int .i64 st.2)
  fr : ∀ i, w.frozen? ⟨rb, i, none⟩ = false
theorem RC.moved {ae : Addr} {w0 : World} {rb : Nat} {s : ByteArray} {st : Int × Int} {w w' : World} {S : Nat → Prop} (h : RC ae w0 rb s st w) (hm : Moved S w w') (h1 : ∀ k, S k → w0.heap.size ≤ k) (h2 : ¬ S rb) : RC ae w0 rb s st w' :=
  { h with
    below := Kit.Moved.below0 h.below hm h1 h.below.size
    c0 := (World.cell?_of_block (hm.block rb (Kit.lt_of_cell h.c0) h2)).trans h.c0
    c1 := (World.cell?_of_block (hm.block rb (Kit.lt_of_cell h.c0) h2)).trans h.c1
    c2 := (World.cell?_of_block (hm.block rb (Kit.lt_of_cell h.c0) h2)).trans h.c2
    fr := fun i => (World.frozen?_of_block (hm.block rb (Kit.lt_of_cell h.c0) h2)).trans (h.fr i) }
theorem RC.later {ae : Addr} {w0 : World} {rb : Nat} {s : ByteArray} {st : Int × Int} {w w' : World} (h : RC ae w0 rb s st w) (hB : Below w.heap.size w w') : RC ae w0 rb s st w' :=
  h.moved (Kit.Moved.of_below hB) (fun k hk => by have := h.below.size; omega) (by have := Kit.lt_of_cell h.c0; dsimp only at this; omega)
theorem RC.drew {ae : Addr} {w0 : World} {rb : Nat} {s : ByteArray} {st : Int × Int} {w : World} (h : RC ae w0 rb s st w) : RC ae w0 rb s st w.drew := h.later ((Below.refl _ _).drew)
theorem RC.Env {ae : Addr} {w0 : World} {rb : Nat} {s : ByteArray} {st : Int × Int} {w : World} (h : RC ae w0 rb s st w) : Env ae w := h.env.below h.below
/-- It writes its place, and what is told. -/
theorem RC.set {ae : Addr} {w0 : World} {rb : Nat} {s : ByteArray} {st st' : Int × Int} {w w1 : World} (h : RC ae w0 rb s st w) (hB : Below w.heap.size w w1) (hi : In64 st') :
    RC ae w0 rb s st' ((w1.setCell ⟨rb, 1, none⟩ (.int .i64 st'.1)).setCell ⟨rb, 2, none⟩ (.int .i64 st'.2)) ∧ Moved (fun j => j = rb) w ((w1.setCell ⟨rb, 1, none⟩ (.int .i64 st'.1)).setCell ⟨rb, 2, none⟩ (.int .i64 st'.2)) := by
  have h1 := h.later hB
  have m3 : Moved (fun j => j = rb) w1 ((w1.setCell ⟨rb, 1, none⟩ (.int .i64 st'.1)).setCell ⟨rb, 2, none⟩ (.int .i64 st'.2)) := (Kit.Moved.setCell (fun j => j = rb) w1 ⟨rb, 1, none⟩ _ rfl).trans (Kit.Moved.setCell (fun j => j = rb) _ ⟨rb, 2, none⟩ _ rfl) (fun _ _ h => h)
  refine ⟨{ h1 with in64 := hi, below := Kit.Moved.below0 h1.below m3 (fun k hk => by rw [hk]; exact h.ge) h1.below.size, c0 := ?_, c1 := ?_, c2 := ?_, fr := fun i => ?_ }, ?_⟩
  · simp [go_sem, h1.c0]
  · simp [go_sem, h1.c1]
  · simp [go_sem, h1.c2]
  · rw [World.frozen?_setCell, World.frozen?_setCell]; exact h1.fr i
  · exact ((Kit.Moved.of_below hB).mono (T := fun j => j = rb) (fun i hi hs => by omega)).trans m3 (fun _ _ h => h)
theorem RC.set2 {ae : Addr} {w0 : World} {rb : Nat} {s : ByteArray} {st : Int × Int} {w : World} (h : RC ae w0 rb s st w) (e : Int) :
    RC ae w0 rb s (st.1, e) (w.setCell ⟨rb, 2, none⟩ (.int .i64 e)) ∧ Moved (fun j => j = rb) w (w.setCell ⟨rb, 2, none⟩ (.int .i64 e)) := by
  have m3 : Moved (fun j => j = rb) w (w.setCell ⟨rb, 2, none⟩ (.int .i64 e)) := Kit.Moved.setCell _ _ _ _ rfl
  refine ⟨{ h with below := Kit.Moved.below0 h.below m3 (fun k hk => by rw [hk]; exact h.ge) h.below.size, c0 := ?_, c1 := ?_, c2 := ?_, fr := fun i => ?_ }, m3⟩
  · simp [go_sem, h.c0]
  · simp [go_sem, h.c1]
  · simp [go_sem, h.c2]
  · rw [World.frozen?_setCell]; exact h.fr i

set_option maxRecDepth 100000 in
set_option maxHeartbeats 1000000 in
theorem takeI_any (ae : Addr) (w0 : World) (rb : Nat) (s : ByteArray) (st : Int × Int) (w : World) (h : RC ae w0 rb s st w) :
    Calls Tryz.prog 170 #[.pointer (some ⟨rb, 0, none⟩), .func (.func 104) #[] #[]] w fun e w' =>
      e = .returned (.int .i64 (takeI s st).1) ∧ RC ae w0 rb s (takeI s st).2 w' ∧ Moved (fun j => j = rb) w w' := by
  obtain ⟨a, er⟩ := st
  have c0 := h.c0
  have c1 := h.c1
  have c2 := h.c2
  by_cases h0 : er = 0
  · subst h0
    have hin := takeI_in h.size h.in64
    have HV := takeI_V s a
    have HC := Lib.hid (Wire.readNum_any s h.size a h.in64.1 h.in64.2 ae w.drew h.Env.lt h.Env.err)
    have HS := Lib.hid (fun w1 (hB : Below w.heap.size w w1) => h.set (w1 := w1) (st' := (takeI s (a, 0)).2) hB hin)
    have HH := Lib.hid h
    rw [HV] at HC
    clear h hin HV
    go_enter Tryz.func170, Tryz.ntmps170
    go_upto_region 2 with fail
    go_region_law (first | (go_simp; go_at_call 104; refine HC.out.mono ?_; rintro e w1 ⟨rfl, hB⟩; have K1 := HH.out.drew.later hB; have HS2 := Lib.hid (HS.out w1 ((Below.refl _ _).drew.trans hB)); have d0 := K1.c0; have d1 := K1.c1; have d2 := K1.c2; have f1 := K1.fr 1; have f2 := K1.fr 2; clear K1 c0 c1 c2 hB))
    all_goals
      go_wp2
      go_ret
      exact ⟨rfl, HS2.out.1, HS2.out.2⟩
  · have he : (er == 0) = false := by simpa using h0
    have hr : takeI s (a, er) = (0, a, er) := by unfold takeI; rw [if_pos h0]
    rw [hr]
    have HH := Lib.hid h
    clear h hr h0
    go_enter Tryz.func170, Tryz.ntmps170
    go_wp2
    go_ret
    exact ⟨rfl, HH.out, Kit.Moved.refl _ _⟩
set_option maxRecDepth 100000 in
set_option maxHeartbeats 1000000 in
theorem takeT_any (ae : Addr) (w0 : World) (rb : Nat) (s : ByteArray) (st : Int × Int) (w : World) (h : RC ae w0 rb s st w) :
    Calls Tryz.prog 137 #[.pointer (some ⟨rb, 0, none⟩), .func (.func 107) #[] #[]] w fun e w' =>
      e = .returned (.string (takeT s st).1) ∧ RC ae w0 rb s (takeT s st).2 w' ∧ Moved (fun j => j = rb) w w' := by
  obtain ⟨a, er⟩ := st
  have c0 := h.c0
  have c1 := h.c1
  have c2 := h.c2
  by_cases h0 : er = 0
  · subst h0
    have hin := takeT_in h.size h.in64
    have HV := takeT_V s a
    have HC := Lib.hid (Wire.readText_any s h.size a h.in64.1 h.in64.2 ae w.drew h.Env.lt h.Env.err)
    have HS := Lib.hid (fun w1 (hB : Below w.heap.size w w1) => h.set (w1 := w1) (st' := (takeT s (a, 0)).2) hB hin)
    have HH := Lib.hid h
    rw [HV] at HC
    clear h hin HV
    go_enter Tryz.func137, Tryz.ntmps137
    go_upto_region 2 with fail
    go_region_law (first | (go_simp; go_at_call 107; refine HC.out.mono ?_; rintro e w1 ⟨rfl, hB⟩; have K1 := HH.out.drew.later hB; have HS2 := Lib.hid (HS.out w1 ((Below.refl _ _).drew.trans hB)); have d0 := K1.c0; have d1 := K1.c1; have d2 := K1.c2; have f1 := K1.fr 1; have f2 := K1.fr 2; clear K1 c0 c1 c2 hB))
    all_goals
      go_wp2
      go_ret
      exact ⟨rfl, HS2.out.1, HS2.out.2⟩
  · have he : (er == 0) = false := by simpa using h0
    have hr : takeT s (a, er) = (⟨#[]⟩, a, er) := by unfold takeT; rw [if_pos h0]
    rw [hr]
    have HH := Lib.hid h
    clear h hr h0
    go_enter Tryz.func137, Tryz.ntmps137
    go_wp2
    go_ret
    exact ⟨rfl, HH.out, Kit.Moved.refl _ _⟩
end Go.Proofs.YtmobnlofbopbeaaGreatDoor.Cls
/- Layer 4: the reader's parts: texts, numbers, types, fields. -/
namespace Go.Proofs.YtmobnlofbopbeaaGreatDoor.Cls
open Go.RowKit
open Kit (ret_int ret_bool Moved)
open Val (Env flat bs Vl Rep RepL)

attribute [local go_sem] Oper.semAt_some

/-- A number from 0 to most is read. -/
def upT (s : ByteArray) (m : Int) (st : Int × Int) : Int × Int × Int :=
  if (takeI s st).1 < 0 ∨ m < (takeI s st).1 then (0, (takeI s st).2.1, 10) else takeI s st
def flagT (s : ByteArray) (st : Int × Int) : Bool × Int × Int := ((upT s 1 st).1 == 1, (upT s 1 st).2)
def typeT (s : ByteArray) (st : Int × Int) : (Int × Int) × Int × Int := (((takeI s st).1, (takeI s (takeI s st).2).1), (takeI s (takeI s st).2).2)
def fieldT (s : ByteArray) (st : Int × Int) : Fd × Int × Int :=
  (⟨(takeT s st).1, (typeT s (takeT s st).2).1.1, (typeT s (takeT s st).2).1.2, (flagT s (typeT s (takeT s st).2).2).1⟩, (flagT s (typeT s (takeT s st).2).2).2)

theorem text_any (ae : Addr) (w0 : World) (rb : Nat) (s : ByteArray) (st : Int × Int) (w : World) (h : RC ae w0 rb s st w) :
    Calls Tryz.prog 113 #[.pointer (some ⟨rb, 0, none⟩)] w fun e w' =>
      e = .returned (.string (takeT s st).1) ∧ RC ae w0 rb s (takeT s st).2 w' ∧ Moved (fun j => j = rb) w w' := by
  have HC := Lib.hid (takeT_any ae w0 rb s st w h)
  clear h
  go_enter Tryz.func113, Tryz.ntmps113
  go_wp2_with fail
  refine HC.out.mono ?_; rintro e w' ⟨rfl, h1, h2⟩
  go_wp2
  go_ret
  exact ⟨rfl, h1, h2⟩
theorem number_any (ae : Addr) (w0 : World) (rb : Nat) (s : ByteArray) (st : Int × Int) (w : World) (h : RC ae w0 rb s st w) :
    Calls Tryz.prog 158 #[.pointer (some ⟨rb, 0, none⟩)] w fun e w' =>
      e = .returned (.int .i64 (takeI s st).1) ∧ RC ae w0 rb s (takeI s st).2 w' ∧ Moved (fun j => j = rb) w w' := by
  have HC := Lib.hid (takeI_any ae w0 rb s st w h)
  clear h
  go_enter Tryz.func158, Tryz.ntmps158
  go_wp2_with fail
  refine HC.out.mono ?_; rintro e w' ⟨rfl, h1, h2⟩
  go_wp2
  go_ret
  exact ⟨rfl, h1, h2⟩

set_option maxRecDepth 100000 in
theorem upTo_any (ae : Addr) (w0 : World) (rb : Nat) (s : ByteArray) (m : Int) (st : Int × Int) (w : World) (h : RC ae w0 rb s st w) :
    Calls Tryz.prog 138 #[.pointer (some ⟨rb, 0, none⟩), .int .i64 m] w fun e w' =>
      e = .returned (.int .i64 (upT s m st).1) ∧ RC ae w0 rb s (upT s m st).2 w' ∧ Moved (fun j => j = rb) w w' := by
  have HC := Lib.hid (number_any ae w0 rb s st w h)
  have HU := Lib.hid (show upT s m st = if (takeI s st).1 < 0 ∨ m < (takeI s st).1 then (0, (takeI s st).2.1, 10) else takeI s st from rfl)
  clear h
  generalize upT s m st = U at *
  generalize takeI s st = T at *
  obtain ⟨N, a, er⟩ := T
  go_enter Tryz.func138, Tryz.ntmps138
  go_wp2_with fail
  refine HC.out.mono ?_; rintro e w1 ⟨rfl, h1, h2⟩
  have H1 := Lib.hid (And.intro h1 h2)
  have hs := Lib.hid (h1.set2 10)
  have d2 := h1.c2
  have f2 := h1.fr 2
  clear h1 h2
  by_cases hlo : N < 0
  · have HU2 := Lib.hid (show U = (0, a, 10) by rw [HU.out, if_pos (.inl hlo)])
    go_wp2
    go_ret
    exact ⟨by rw [HU2.out]; rfl, by rw [HU2.out]; exact hs.out.1, H1.out.2.trans hs.out.2 (fun _ _ h => h)⟩
  · by_cases hhi : m < N
    · have HU2 := Lib.hid (show U = (0, a, 10) by rw [HU.out, if_pos (.inr hhi)])
      go_wp2
      go_ret
      exact ⟨by rw [HU2.out]; rfl, by rw [HU2.out]; exact hs.out.1, H1.out.2.trans hs.out.2 (fun _ _ h => h)⟩
    · have HU2 := Lib.hid (show U = (N, a, er) by rw [HU.out, if_neg (by omega)])
      go_wp2
      go_ret
      exact ⟨by rw [HU2.out]; rfl, by rw [HU2.out]; exact H1.out.1, H1.out.2⟩

theorem count_any (ae : Addr) (w0 : World) (rb : Nat) (s : ByteArray) (st : Int × Int) (w : World) (h : RC ae w0 rb s st w) :
    Calls Tryz.prog 115 #[.pointer (some ⟨rb, 0, none⟩)] w fun e w' =>
      e = .returned (.int .i64 (upT s 8 st).1) ∧ RC ae w0 rb s (upT s 8 st).2 w' ∧ Moved (fun j => j = rb) w w' := by
  have HC := Lib.hid (upTo_any ae w0 rb s 8 st w h)
  clear h
  go_enter Tryz.func115, Tryz.ntmps115
  go_wp2_with fail
  refine HC.out.mono ?_; rintro e w' ⟨rfl, h1, h2⟩
  go_wp2
  go_ret
  exact ⟨rfl, h1, h2⟩
theorem flag_any (ae : Addr) (w0 : World) (rb : Nat) (s : ByteArray) (st : Int × Int) (w : World) (h : RC ae w0 rb s st w) :
    Calls Tryz.prog 140 #[.pointer (some ⟨rb, 0, none⟩)] w fun e w' =>
      e = .returned (.bool (flagT s st).1) ∧ RC ae w0 rb s (flagT s st).2 w' ∧ Moved (fun j => j = rb) w w' := by
  have HC := Lib.hid (upTo_any ae w0 rb s 1 st w h)
  unfold flagT
  clear h
  go_enter Tryz.func140, Tryz.ntmps140
  go_wp2_with fail
  refine HC.out.mono ?_; rintro e w' ⟨rfl, h1, h2⟩
  go_wp2
  go_ret
  exact ⟨rfl, h1, h2⟩

/-- A cell of a new block stays. -/
theorem cell_moved {S : Nat → Prop} {w w' : World} (h : Moved S w w') {a : Addr} {v : Value} (hc : w.cell? a = some v) (hS : ¬ S a.block) : w'.cell? a = some v := (World.cell?_of_block (h.block a.block (Kit.lt_of_cell hc) hS)).trans hc
theorem frozen_moved {S : Nat → Prop} {w w' : World} (h : Moved S w w') {a : Addr} (hl : a.block < w.heap.size) (hS : ¬ S a.block) : w'.frozen? a = w.frozen? a := World.frozen?_of_block (h.block a.block hl hS)

set_option maxRecDepth 100000 in
set_option maxHeartbeats 1000000 in
theorem valType_any (ae : Addr) (w0 : World) (rb : Nat) (s : ByteArray) (st : Int × Int) (w : World) (h : RC ae w0 rb s st w) :
    Calls Tryz.prog 139 #[.pointer (some ⟨rb, 0, none⟩)] w fun e w' =>
      e = .returned (.agg #[.int .i64 (typeT s st).1.1, .int .i64 (typeT s st).1.2]) ∧ RC ae w0 rb s (typeT s st).2 w' ∧ Moved (fun j => j = rb) w w' := by
  have hrb : rb < w.heap.size := Kit.lt_of_cell h.c0
  have hge := h.below.size
  have y0 := Kit.cell_new w #[.int .i64 0, .int .i64 0] 26 0 rfl
  have y1 := Kit.cell_new w #[.int .i64 0, .int .i64 0] 26 1 rfl
  have f0 := Kit.frozen_new w #[.int .i64 0, .int .i64 0] 26 0
  have f1 := Kit.frozen_new w #[.int .i64 0, .int .i64 0] 26 1
  have m0 : Moved (fun j => j = rb) w (w.alloc (.cells #[.int .i64 0, .int .i64 0] 26)) := Kit.Moved.alloc _ _ _
  have HC := Lib.hid (number_any ae w0 rb s st _ (h.later (Kit.below_alloc w (.cells #[.int .i64 0, .int .i64 0] 26))))
  have H0 := Lib.hid (And.intro y0 (And.intro y1 (And.intro f0 (And.intro f1 m0))))
  have hne : ¬ w.heap.size = rb := by omega
  have HN := Lib.hid (And.intro hne (And.intro hrb hge))
  clear h y0 y1 f0 f1 m0 hrb hge hne
  unfold typeT
  go_enter Tryz.func139, Tryz.ntmps139
  go_wp2_with fail
  refine HC.out.mono ?_; rintro e w1 ⟨rfl, h1, hm1⟩
  have HD := Lib.hid (number_any ae w0 rb s (takeI s st).2 w1 h1)
  have M1 := Lib.hid hm1
  clear HC h1 hm1
  go_wp2_with fail
  refine HD.out.mono ?_; rintro e w2 ⟨rfl, h2, hm2⟩
  have M2 := Lib.hid (M1.out.trans hm2 (fun _ _ h => h))
  have y0 := cell_moved M2.out H0.out.1 HN.out.1
  have y1 := cell_moved M2.out H0.out.2.1 HN.out.1
  have f0 := (frozen_moved M2.out (Kit.lt_of_cell H0.out.1) HN.out.1).trans H0.out.2.2.1
  have f1 := (frozen_moved M2.out (Kit.lt_of_cell H0.out.2.1) HN.out.1).trans H0.out.2.2.2.1
  have H2 := Lib.hid h2
  clear HD h2 hm2 M1
  go_wp2
  have m3 : Moved (fun j => j = w.heap.size) w2 ((w2.setCell ⟨w.heap.size, 0, none⟩ (.int .i64 (takeI s st).1)).setCell ⟨w.heap.size, 1, none⟩ (.int .i64 (takeI s (takeI s st).2).1)) := (Kit.Moved.setCell (fun j => j = w.heap.size) w2 ⟨w.heap.size, 0, none⟩ _ rfl).trans (Kit.Moved.setCell (fun j => j = w.heap.size) _ ⟨w.heap.size, 1, none⟩ _ rfl) (fun _ _ h => h)
  exact bodyPost_ret (v := .agg #[.int .i64 (takeI s st).1, .int .i64 (takeI s (takeI s st).2).1]) (by simp [results, Tryz.results139, go_sem, y0, y1]) rfl
    ⟨rfl, H2.out.moved m3 (fun k hk => by have := HN.out.2.2; omega) (fun h => HN.out.1 h.symm), (H0.out.2.2.2.2.trans M2.out (fun _ _ h => h)).trans m3 (fun i hi hk => by omega)⟩

set_option maxRecDepth 100000 in
set_option maxHeartbeats 1000000 in
theorem fieldT_any (ae : Addr) (w0 : World) (rb : Nat) (s : ByteArray) (st : Int × Int) (w : World) (h : RC ae w0 rb s st w) :
    Calls Tryz.prog 116 #[.pointer (some ⟨rb, 0, none⟩)] w fun e w' =>
      e = .returned (aggFd (fieldT s st).1) ∧ RC ae w0 rb s (fieldT s st).2 w' ∧ Moved (fun j => j = rb) w w' := by
  have hrb : rb < w.heap.size := Kit.lt_of_cell h.c0
  have hge := h.below.size
  have y0 := Val.boxF_new w (.string ⟨#[]⟩) (.int .i64 0) (.int .i64 0) (.bool false) 94
  have m0 : Moved (fun j => j = rb) w (w.alloc (.cells #[.string ⟨#[]⟩, .int .i64 0, .int .i64 0, .bool false] 94)) := Kit.Moved.alloc _ _ _
  have HC := Lib.hid (text_any ae w0 rb s st _ (h.later (Kit.below_alloc w (.cells #[.string ⟨#[]⟩, .int .i64 0, .int .i64 0, .bool false] 94))))
  have H0 := Lib.hid (And.intro y0 m0)
  have hne : ¬ w.heap.size = rb := by omega
  have HN := Lib.hid (And.intro hne (And.intro hrb hge))
  clear h y0 m0 hrb hge hne
  unfold fieldT
  go_enter Tryz.func116, Tryz.ntmps116
  go_wp2_with fail
  refine HC.out.mono ?_; rintro e w1 ⟨rfl, h1, hm1⟩
  have HD := Lib.hid (valType_any ae w0 rb s (takeT s st).2 w1 h1)
  have M1 := Lib.hid hm1
  clear HC h1 hm1
  go_wp2_with fail
  refine HD.out.mono ?_; rintro e w2 ⟨rfl, h2, hm2⟩
  have M2 := Lib.hid (M1.out.trans hm2 (fun _ _ h => h))
  have HF := Lib.hid (flag_any ae w0 rb s (typeT s (takeT s st).2).2 w2 h2)
  clear HD h2 hm2 M1
  go_wp2_with fail
  refine HF.out.mono ?_; rintro e w3 ⟨rfl, h3, hm3⟩
  have M3 := Lib.hid (M2.out.trans hm3 (fun _ _ h => h))
  have H3 := Lib.hid h3
  clear HF h3 hm3 M2
  obtain ⟨⟨y0, y1, y2, y3⟩, yf⟩ := H0.out.1.moved M3.out HN.out.1
  have yf0 := yf 0
  have yf1 := yf 1
  have yf2 := yf 2
  have yf3 := yf 3
  clear yf
  go_wp2
  have m4 := Val.end4b w.heap.size w3 (.string (takeT s st).1) (.int .i64 (typeT s (takeT s st).2).1.1) (.int .i64 (typeT s (takeT s st).2).1.2) (.bool (flagT s (typeT s (takeT s st).2).2).1)
  exact bodyPost_ret (v := .agg #[.string (takeT s st).1, .int .i64 (typeT s (takeT s st).2).1.1, .int .i64 (typeT s (takeT s st).2).1.2, .bool (flagT s (typeT s (takeT s st).2).2).1]) (by simp [results, Tryz.results116, go_sem, y0, y1, y2, y3]) rfl
    ⟨rfl, H3.out.moved m4 (fun k hk => by have := HN.out.2.2; omega) (fun h => HN.out.1 h.symm), (H0.out.2.trans M3.out (fun _ _ h => h)).trans m4 (fun i hi hk => by omega)⟩
end Go.Proofs.YtmobnlofbopbeaaGreatDoor.Cls
/- Layer 4: Decode. -/
namespace Go.Proofs.YtmobnlofbopbeaaGreatDoor.Cls
open Go.RowKit
open Kit (ret_int ret_bool Moved)
open Val (Env flat bs Vl Rep RepL)

attribute [local go_sem] Oper.semAt_some

/-- Fields, read one behind the other. -/
def fieldsT (s : ByteArray) : Nat → Int × Int → List Fd × Int × Int
  | 0, st => ([], st)
  | k + 1, st => ((fieldsT s k st).1 ++ [(fieldT s (fieldsT s k st).2).1], (fieldT s (fieldsT s k st).2).2)
def severalT (s : ByteArray) (st : Int × Int) : List Fd × Int × Int := fieldsT s (upT s 8 st).1.toNat (upT s 8 st).2
theorem fieldsT_len (s : ByteArray) : ∀ (k : Nat) (st : Int × Int), (fieldsT s k st).1.length = k
  | 0, _ => rfl
  | k + 1, st => by rw [fieldsT]; simp [fieldsT_len s k st]
theorem upT_range (s : ByteArray) {m : Int} (hm : 0 ≤ m) (st : Int × Int) : 0 ≤ (upT s m st).1 ∧ (upT s m st).1 ≤ m := by
  unfold upT
  split
  · exact ⟨by simp, hm⟩
  · omega
theorem severalT_len (s : ByteArray) (st : Int × Int) : (severalT s st).1.length ≤ 8 := by
  unfold severalT
  rw [fieldsT_len]
  have := upT_range s (m := 8) (by decide) st
  omega
abbrev zeroF : List Value := [.string ⟨#[]⟩, .int .i64 0, .int .i64 0, .bool false]
theorem fInfo : (Tryz.prog.info? 94).map (fun i => (i.zero, i.size, i.bytes)) = some (some (.agg #[.string ⟨#[]⟩, .int .i64 0, .int .i64 0, .bool false]), 4, 40) := by kernel_rfl
theorem cellsFd_one (x : Fd) : ∀ u ∈ cellsFd x, u.oneCell' = true := by
  intro u hu
  simp only [cellsFd, List.mem_cons, List.not_mem_nil, or_false] at hu
  rcases hu with rfl | rfl | rfl | rfl <;> rfl
theorem fdL_own {w : World} {base e n : Nat} {v : Value} {l : List Fd} (h : w.ownsRow base e 4 v n (l.flatMap cellsFd)) (hn : n = l.length) : FdL w.heap.size w l v := by
  subst hn
  rcases h.2 with ⟨h1, h2⟩ | ⟨g, cap, cur, h1, h2⟩
  · left
    exact ⟨by rw [← List.length_eq_zero_iff]; omega, none, 0, h1⟩
  · right
    have hl := h.lt g (by rw [h1]; rfl)
    refine ⟨g, 0, cap, hl.2, h1, by have h3 := h2.2.2.1; have h4 := h2.2.2.2.1; omega, fun j u hu => ?_⟩
    have := h.cells (g := g) (by rw [h1]; rfl) j u hu
    rw [Addr.add_mid] at this
    exact this

/-- What stands in the round. -/
structure SevJ (ae : Addr) (w0 : World) (rb : Nat) (s : ByteArray) (w : World) (st : Int × Int) (k : Nat) (lv : Value) (W : World) : Prop where
  row : W.ownsRow w.heap.size 94 4 lv k ((fieldsT s k st).1.flatMap cellsFd)
  rc : RC ae w0 rb s (fieldsT s k st).2 W
  moved : Moved (fun j => j = rb) w W
  rb : rb < w.heap.size

set_option maxRecDepth 100000 in
set_option maxHeartbeats 4000000 in
theorem several_any (ae : Addr) (w0 : World) (rb : Nat) (s : ByteArray) (st : Int × Int) (w : World) (h : RC ae w0 rb s st w) :
    Calls Tryz.prog 114 #[.func (.func 115) #[.pointer (some ⟨rb, 0, none⟩)] #[], .func (.func 116) #[.pointer (some ⟨rb, 0, none⟩)] #[]] w fun e w' =>
      (∃ lv, e = .returned lv ∧ FdL w'.heap.size w' (severalT s st).1 lv ∧ Val.Fresh w.heap.size lv) ∧ RC ae w0 rb s (severalT s st).2 w' ∧ Moved (fun j => j = rb) w w' := by
  have hrb : rb < w.heap.size := Kit.lt_of_cell h.c0
  have hw0 := h.below.size
  obtain ⟨i0, hi0, hf⟩ : ∃ i0, Tryz.prog.info? 94 = some i0 ∧ (i0.zero, i0.size, i0.bytes) = (some (.agg #[.string ⟨#[]⟩, .int .i64 0, .int .i64 0, .bool false]), 4, 40) := by
    have := fInfo
    cases hi : Tryz.prog.info? 94 with
    | none => rw [hi] at this; cases this
    | some i => rw [hi] at this; exact ⟨i, rfl, Option.some.inj this⟩
  simp only [Prod.mk.injEq] at hf
  obtain ⟨hz0, hz1, hz2⟩ := hf
  have HC := Lib.hid (count_any ae w0 rb s st w h)
  unfold severalT
  have hu := upT_range s (m := 8) (by decide) st
  generalize upT s 8 st = U at *
  obtain ⟨N, su⟩ := U
  obtain ⟨n, rfl⟩ := Int.eq_ofNat_of_zero_le hu.1
  have hn8 : n ≤ 8 := by have := hu.2; simp only at this; omega
  simp only [Int.toNat_natCast] at *
  clear h hu
  go_enter Tryz.func114, Tryz.ntmps114
  go_wp2_with (go_at_call 115; refine HC.out.mono ?_; rintro e w1 ⟨rfl, h1, hm1⟩; have J1 : Hid (SevJ ae w0 rb s w su 0 (.slice none 0 0) w1) := Lib.hid ⟨World.ownsRow_nil _ _ _ _, h1, hm1, hrb⟩; clear h1 hm1 HC)
  go_loopw [5, 8] (fun lv j wr => ∃ k : Nat, k ≤ n ∧ j = .int .i64 k ∧ SevJ ae w0 rb s w su k lv wr) (fun _ j _ => n - (intOf j).toNat)
  case atStart => exact ⟨0, by omega, rfl, J1.out⟩
  case round =>
    obtain ⟨k, hk, rfl, hJ⟩ := hrel
    have J := Lib.hid hJ; clear hJ J1
    by_cases hlt : k < n
    · have i2 : (k : Int) < (n : Int) := by omega
      have HF := Lib.hid (fieldT_any ae w0 rb s (fieldsT s k su).2 wr J.out.rc)
      go_wp2_with (first | (go_at_call 116; refine HF.out.mono ?_; rintro e w2 ⟨rfl, h2, hm2⟩; have J2 := Lib.hid (And.intro h2 (And.intro hm2 (Kit.ownsRow_moved J.out.row hm2 (fun j hj e => by have := J.out.rb; omega)))); clear h2 hm2 HF) | (at_builtin; refine wpList_append_own_at _ rfl _ _ 54 rfl w.heap.size 94 i0 (.agg zeroF.toArray) 4 40 Tryz.underlying54 hi0 hz0 hz1 hz2 rfl (by decide) _ _ _ rfl (J2.out.2.2.alloc _) ⟨w2.heap.size, 0, none⟩ 1 1 (cellsFd (fieldT s (fieldsT s k su).2).1) rfl rfl (fun j u hu => by rw [Addr.add_mid]; exact Kit.cell_new w2 _ _ (0 + j) (by rw [Nat.zero_add, ← Array.getElem?_toList]; exact hu)) (cellsFd_one _) (by unfold maxLen; omega) (by omega) (by have := J.out.moved.size; have := J2.out.2.1.size; simp; omega) ?_; intro v3 W3 hown3 hg3 _ _))
      refine ⟨⟨k + 1, by omega, by push_cast; rfl, ?_, ?_, ?_, J.out.rb⟩, by simp [intOf]; omega⟩
      · rw [fieldsT]
        rw [List.flatMap_append]
        simpa using hown3
      · rw [fieldsT]
        have hg := (J2.out.1.later (Kit.below_alloc w2 (.cells #[.string (fieldT s (fieldsT s k su).2).1.nm, .int .i64 (fieldT s (fieldsT s k su).2).1.k, .int .i64 (fieldT s (fieldsT s k su).2).1.o, .bool (fieldT s (fieldsT s k su).2).1.ix] 94))).moved (Kit.Moved.of_grownBy hg3) (fun j hj => by have := (J.out.row.lt j hj).1; omega) (fun hj => by have := (J.out.row.lt _ hj).1; have := J.out.rb; omega)
        exact hg
      · have hma : Moved (fun j => j = rb) w2 (w2.alloc (.cells #[.string (fieldT s (fieldsT s k su).2).1.nm, .int .i64 (fieldT s (fieldsT s k su).2).1.k, .int .i64 (fieldT s (fieldsT s k su).2).1.o, .bool (fieldT s (fieldsT s k su).2).1.ix] 94)) := Kit.Moved.alloc _ _ _
        exact ((J.out.moved.trans J2.out.2.1 (fun _ _ h => h)).trans hma (fun _ _ h => h)).trans (Kit.Moved.of_grownBy hg3) (fun i hi hj => by have := (J.out.row.lt i hj).1; omega)
    · have hkn : k = n := by omega
      subst hkn
      go_wp2
      go_ret
      exact ⟨⟨_, rfl, fdL_own J.out.row (fieldsT_len s k su).symm, fun j hj => (J.out.row.lt j hj).1⟩, J.out.rc, J.out.moved⟩
/-- The class that is read, and the place behind it. -/
def decC (s : ByteArray) (a : Int) : Option (Cl × Int) :=
  if (severalT s (takeT s (a, 0)).2).2.2 ≠ 0 ∨ clsR ⟨(takeT s (a, 0)).1, (severalT s (takeT s (a, 0)).2).1⟩ = false then none
  else some (⟨(takeT s (a, 0)).1, (severalT s (takeT s (a, 0)).2).1⟩, (severalT s (takeT s (a, 0)).2).2.1)
def DecPost (r : Option (Cl × Int)) (e : Ending) (w' : World) : Prop :=
  match r with
  | none => e = .returned (.tuple #[.agg #[.string ⟨#[]⟩, .slice none 0 0], .int .i64 0, .int .i64 10])
  | some q => ∃ lv, e = .returned (.tuple #[.agg #[.string q.1.nm, lv], .int .i64 q.2, .int .i64 0]) ∧ FdL w'.heap.size w' q.1.l lv

set_option maxRecDepth 100000 in
set_option maxHeartbeats 4000000 in
theorem Decode_any (ae : Addr) (s : ByteArray) (hs : s.size ≤ 140737488351232) (a : Int) (h1 : -9223372036854775808 ≤ a) (h2 : a ≤ 9223372036854775807) (w : World) (hE : Env ae w) :
    Calls Tryz.prog 66 #[.string s, .int .i64 a] w fun e w' => DecPost (decC s a) e w' ∧ Below w.heap.size w w' := by
  have hB0 := Kit.below_alloc2 w (.cells #[.string ⟨#[]⟩, .slice none 0 0] 56) (.cells #[.string s, .int .i64 a, .int .i64 0] 126)
  have e0 := Kit.cell_new (w.alloc (.cells #[.string ⟨#[]⟩, .slice none 0 0] 56)) #[.string s, .int .i64 a, .int .i64 0] 126 0 rfl
  have e1 := Kit.cell_new (w.alloc (.cells #[.string ⟨#[]⟩, .slice none 0 0] 56)) #[.string s, .int .i64 a, .int .i64 0] 126 1 rfl
  have e2 := Kit.cell_new (w.alloc (.cells #[.string ⟨#[]⟩, .slice none 0 0] 56)) #[.string s, .int .i64 a, .int .i64 0] 126 2 rfl
  have ef := fun i => Kit.frozen_new (w.alloc (.cells #[.string ⟨#[]⟩, .slice none 0 0] 56)) #[.string s, .int .i64 a, .int .i64 0] 126 i
  rw [World.size_alloc] at e0 e1 e2
  simp only [World.size_alloc] at ef
  have R0 : RC ae w (w.heap.size + 1) s (a, 0) ((w.alloc (.cells #[.string ⟨#[]⟩, .slice none 0 0] 56)).alloc (.cells #[.string s, .int .i64 a, .int .i64 0] 126)) := ⟨hE, hB0, by omega, hs, ⟨h1, h2⟩, e0, e1, e2, ef⟩
  have y0 := Kit.cell_kept (.cells #[.string s, .int .i64 a, .int .i64 0] 126) (Kit.cell_new w #[.string ⟨#[]⟩, .slice none 0 0] 56 0 rfl)
  have y1 := Kit.cell_kept (.cells #[.string s, .int .i64 a, .int .i64 0] 126) (Kit.cell_new w #[.string ⟨#[]⟩, .slice none 0 0] 56 1 rfl)
  have yf := fun i => (Kit.frozen_kept (a := ⟨w.heap.size, i, none⟩) (.cells #[.string s, .int .i64 a, .int .i64 0] 126) (by simp)).trans (Kit.frozen_new w #[.string ⟨#[]⟩, .slice none 0 0] 56 i)
  have HR := Lib.hid R0
  have HY := Lib.hid (And.intro y0 (And.intro y1 yf))
  have HB := Lib.hid hB0
  have HT := Lib.hid (text_any ae w (w.heap.size + 1) s (a, 0) _ R0)
  clear hB0 e0 e1 e2 ef R0 y0 y1 yf
  go_enter Tryz.func66, Tryz.ntmps66
  go_wp2_with fail
  refine HT.out.mono ?_; rintro e w1 ⟨rfl, r1, m1⟩
  have HS := Lib.hid (several_any ae w (w.heap.size + 1) s (takeT s (a, 0)).2 w1 r1)
  have M1 := Lib.hid m1
  have R1c := Lib.hid r1.c0
  have hD : decC s a = if (severalT s (takeT s (a, 0)).2).2.2 ≠ 0 ∨ clsR ⟨(takeT s (a, 0)).1, (severalT s (takeT s (a, 0)).2).1⟩ = false then none else some (⟨(takeT s (a, 0)).1, (severalT s (takeT s (a, 0)).2).1⟩, (severalT s (takeT s (a, 0)).2).2.1) := rfl
  have hl8 := severalT_len s (takeT s (a, 0)).2
  generalize (takeT s (a, 0)).1 = nm at *
  generalize severalT s (takeT s (a, 0)).2 = F at *
  obtain ⟨l, at', er⟩ := F
  have HD := Lib.hid hD
  clear r1 m1 HT hD HR
  go_wp2_with fail
  refine HS.out.mono ?_; rintro e w2 ⟨⟨lv, rfl, hl, hfr⟩, r2, m2⟩
  obtain ⟨va, vc, rfl, -⟩ := hl.len
  have M2 := Lib.hid (M1.out.trans m2 (fun _ _ h => h))
  have L2 := Lib.hid hl
  have NF := Lib.hid (show ∀ j, (Value.slice va l.length vc).ownBlock = some j → w.heap.size < j from fun j hj => by have h1 := hfr j hj; have h2 := Kit.lt_of_cell R1c.out; dsimp only at h2; omega)
  clear hfr
  have R2 := Lib.hid r2
  have hw2 : w.heap.size + 1 < w2.heap.size := Kit.lt_of_cell r2.c0
  have hn1 : ¬ w.heap.size = w.heap.size + 1 := by omega
  have B3 := Lib.hid ((HB.out.trans (M2.out.below (B := w.heap.size) (fun k hk => by omega) (by simp; omega))).trans ((Kit.below_alloc w2 (.cells #[.string nm, .slice va l.length vc] 56)).mono (by omega)))
  have Y3 := Lib.hid (And.intro (Kit.cell_kept (.cells #[.string nm, .slice va l.length vc] 56) (cell_moved M2.out HY.out.1 hn1)) (And.intro (Kit.cell_kept (.cells #[.string nm, .slice va l.length vc] 56) (cell_moved M2.out HY.out.2.1 hn1)) (fun i => (Kit.frozen_kept (a := ⟨w.heap.size, i, none⟩) (.cells #[.string nm, .slice va l.length vc] 56) (by dsimp only; omega)).trans ((frozen_moved M2.out (a := ⟨w.heap.size, i, none⟩) (by simp; omega) hn1).trans (HY.out.2.2 i)))))
  have C3 := Lib.hid (And.intro (Kit.cell_new w2 #[.string nm, .slice va l.length vc] 56 0 rfl) (Kit.cell_new w2 #[.string nm, .slice va l.length vc] 56 1 rfl))
  have R3 := Lib.hid (r2.later (Kit.below_alloc w2 (.cells #[.string nm, .slice va l.length vc] 56)))
  have HQ := Lib.hid (right_cl ae ⟨nm, l⟩ w2.heap.size _ (.slice va l.length vc) (by simp) R3.out.Env (hl.below (Kit.below_alloc w2 (.cells #[.string nm, .slice va l.length vc] 56)) (Nat.le_refl _)))
  clear hl r2 m2 M1 HS HY HB R2
  have z0 : (w2.alloc (.cells #[.string nm, .slice va l.length vc] 56)).cell? ⟨w.heap.size + 1, 2, none⟩ = some (.int .i64 er) := R3.out.c2
  by_cases he : er = 0
  · subst he
    go_wp2_with fail
    refine HQ.out.mono ?_; rintro e w4 ⟨rfl, hB4⟩
    have B4 := Lib.hid (B3.out.trans (hB4.mono B3.out.size))
    have y0 := (hB4.cell (p := ⟨w.heap.size, 0, none⟩) (Kit.lt_of_cell Y3.out.1)).trans Y3.out.1
    have y1 := (hB4.cell (p := ⟨w.heap.size, 1, none⟩) (Kit.lt_of_cell Y3.out.2.1)).trans Y3.out.2.1
    have f0 := (hB4.frozen (p := ⟨w.heap.size, 0, none⟩) (Kit.lt_of_cell Y3.out.1)).trans (Y3.out.2.2 0)
    have f1 := (hB4.frozen (p := ⟨w.heap.size, 1, none⟩) (Kit.lt_of_cell Y3.out.2.1)).trans (Y3.out.2.2 1)
    have g0 := (hB4.cell (p := ⟨w2.heap.size, 0, none⟩) (Kit.lt_of_cell C3.out.1)).trans C3.out.1
    have g1 := (hB4.cell (p := ⟨w2.heap.size, 1, none⟩) (Kit.lt_of_cell C3.out.2)).trans C3.out.2
    have z1 : w4.cell? ⟨w.heap.size + 1, 1, none⟩ = some (.int .i64 at') := (hB4.cell (p := ⟨w.heap.size + 1, 1, none⟩) (Kit.lt_of_cell R3.out.c1)).trans R3.out.c1
    have H4 := Lib.hid hB4
    have hw4 : w.heap.size < w4.heap.size := Kit.lt_of_cell y0
    clear hB4 HQ z0
    cases hc : clsR ⟨nm, l⟩
    · have HDN := Lib.hid (show decC s a = none by rw [HD.out, if_pos (.inr hc)])
      clear hc
      go_wp2
      have m5 : Moved (fun j => j = w.heap.size) w4 ((w4.setCell ⟨w.heap.size, 0, none⟩ (.string ⟨#[]⟩)).setCell ⟨w.heap.size, 1, none⟩ (.slice none 0 0)) := (Kit.Moved.setCell (fun j => j = w.heap.size) w4 ⟨w.heap.size, 0, none⟩ _ rfl).trans (Kit.Moved.setCell (fun j => j = w.heap.size) _ ⟨w.heap.size, 1, none⟩ _ rfl) (fun _ _ h => h)
      exact bodyPost_ret (v := .tuple #[.agg #[.string ⟨#[]⟩, .slice none 0 0], .int .i64 0, .int .i64 10]) (by simp [results, Tryz.results66, go_sem, y0, y1]) rfl ⟨by rw [HDN.out]; exact rfl, B4.out.trans (m5.below (fun j hj => by omega) (by omega))⟩
    · have HDN := Lib.hid (show decC s a = some (⟨nm, l⟩, at') by rw [HD.out, if_neg (by simp [hc])])
      clear hc
      go_upto_region 5 with fail
      go_region
      go_wp2
      have m5 : Moved (fun j => j = w.heap.size) w4 ((w4.setCell ⟨w.heap.size, 0, none⟩ (.string nm)).setCell ⟨w.heap.size, 1, none⟩ (.slice va l.length vc)) := (Kit.Moved.setCell (fun j => j = w.heap.size) w4 ⟨w.heap.size, 0, none⟩ _ rfl).trans (Kit.Moved.setCell (fun j => j = w.heap.size) _ ⟨w.heap.size, 1, none⟩ _ rfl) (fun _ _ h => h)
      have L4 := (L2.out.below (Kit.below_alloc w2 (.cells #[.string nm, .slice va l.length vc] 56)) (Nat.le_refl _)).below H4.out (by simp)
      have hz4 : w2.heap.size ≤ w4.heap.size := Nat.le_trans (by simp) H4.out.size
      have L5 : FdL ((w4.setCell ⟨w.heap.size, 0, none⟩ (.string nm)).setCell ⟨w.heap.size, 1, none⟩ (.slice va l.length vc)).heap.size ((w4.setCell ⟨w.heap.size, 0, none⟩ (.string nm)).setCell ⟨w.heap.size, 1, none⟩ (.slice va l.length vc)) l (.slice va l.length vc) := by
        rcases L4 with h | ⟨b, o, c, h0, h1, h2, h3⟩
        · exact .inl h
        · refine .inr ⟨b, o, c, by have := m5.size; omega, h1, h2, ?_⟩
          have hb : b ≠ w.heap.size := fun e => by
            have := NF.out b (by rw [h1]; rfl)
            omega
          exact Val.rangeAt_heap h3 (m5.block b (by omega) hb)
      exact bodyPost_ret (v := .tuple #[.agg #[.string nm, .slice va l.length vc], .int .i64 at', .int .i64 0]) (by simp [results, Tryz.results66, go_sem, y0, y1]) rfl ⟨by rw [HDN.out]; exact ⟨_, rfl, L5⟩, (B4.out.trans (m5.below (fun j hj => by omega) (by omega))).drew⟩
  · have hen : (er != 0) = true := by simpa using he
    have HDN := Lib.hid (show decC s a = none by rw [HD.out, if_pos (.inl he)])
    obtain ⟨y0, y1, yf⟩ := Y3.out
    have f0 := yf 0
    have f1 := yf 1
    have hw4 : w.heap.size < w2.heap.size := by omega
    clear yf he HQ
    have hzW : w.heap.size < (w2.alloc (.cells #[.string nm, .slice va l.length vc] 56)).heap.size := by simp; omega
    go_upto_region 3 with fail
    generalize w2.alloc (.cells #[.string nm, .slice va l.length vc] 56) = W3 at *
    go_wp2
    have m5 : Moved (fun j => j = w.heap.size) W3 ((W3.setCell ⟨w.heap.size, 0, none⟩ (.string ⟨#[]⟩)).setCell ⟨w.heap.size, 1, none⟩ (.slice none 0 0)) := (Kit.Moved.setCell (fun j => j = w.heap.size) _ ⟨w.heap.size, 0, none⟩ _ rfl).trans (Kit.Moved.setCell (fun j => j = w.heap.size) _ ⟨w.heap.size, 1, none⟩ _ rfl) (fun _ _ h => h)
    exact bodyPost_ret (v := .tuple #[.agg #[.string ⟨#[]⟩, .slice none 0 0], .int .i64 0, .int .i64 10]) (by simp [results, Tryz.results66, go_sem, y0, y1]) rfl ⟨by rw [HDN.out]; exact rfl, B3.out.trans (m5.below (fun j hj => by omega) (by omega))⟩
end Go.Proofs.YtmobnlofbopbeaaGreatDoor.Cls
