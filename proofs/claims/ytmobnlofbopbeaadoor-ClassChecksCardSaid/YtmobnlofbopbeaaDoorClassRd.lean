/- Layer 4: the reader: one part behind the other. -/
import Derived.Test.YtmobnlofbopbeaaDoorClass5
import Derived.Test.YtmobnlofbopbeaaDoorKit7
import Derived.Deep.RegionHeld3
import Derived.Deep.RegionLaw
namespace Go.Proofs.YtmobnlofbopbeaaDoor.Cls
open Go.RowKit
open Kit (ret_int ret_bool Moved)
open Val (Env flat bs Vl Rep RepL)
open Wire (readN readT bytesAt readNumV readTextV)

attribute [local go_sem] Oper.semAt_some

/-- A number is read. -/
def takeI (s : ByteArray) (st : Int × Int) : Int × Int × Int :=
  if st.2 ≠ 0 then (0, st) else match readN (bytesAt s st.1) with
    | none => (0, 0, 10)
    | some r => (r.1, st.1 + (r.2 : Int), 0)
/-- A text is read. -/
def takeT (s : ByteArray) (st : Int × Int) : ByteArray × Int × Int :=
  if st.2 ≠ 0 then (⟨#[]⟩, st) else match readT s st.1 with
    | none => (⟨#[]⟩, 0, 10)
    | some r => (r.1, r.2, 0)
theorem takeI_V (s : ByteArray) (a : Int) : readNumV s a = .tuple #[.int .i64 (takeI s (a, 0)).1, .int .i64 (takeI s (a, 0)).2.1, .int .i64 (takeI s (a, 0)).2.2] := by
  unfold readNumV takeI
  rw [if_neg (by simp)]
  cases readN (bytesAt s a) <;> rfl
theorem takeT_V (s : ByteArray) (a : Int) : readTextV s a = .tuple #[.string (takeT s (a, 0)).1, .int .i64 (takeT s (a, 0)).2.1, .int .i64 (takeT s (a, 0)).2.2] := by
  unfold readTextV takeT
  rw [if_neg (by simp)]
  simp only
  cases readT s a <;> rfl
/-- A place, and what is told, are numbers of the machine. -/
def In64 (st : Int × Int) : Prop := -9223372036854775808 ≤ st.1 ∧ st.1 ≤ 9223372036854775807
theorem bytesAt_neg {s : ByteArray} {a : Int} (h : a < 0) : bytesAt s a = [] := by unfold bytesAt; rw [if_neg (by omega)]
theorem bytesAt_len {s : ByteArray} {a : Int} (h : 0 ≤ a) : ((bytesAt s a).length : Int) ≤ (s.size : Int) - a ∨ bytesAt s a = [] := by
  unfold bytesAt
  rw [if_pos h]
  have := Val.data_len s
  by_cases h2 : a ≤ (s.size : Int)
  · left; simp; omega
  · right; simp; omega
theorem takeI_in {s : ByteArray} (hs : s.size ≤ 140737488351232) {st : Int × Int} (h : In64 st) : In64 (takeI s st).2 := by
  unfold takeI
  split
  · exact h
  · cases hr : readN (bytesAt s st.1) with
    | none => exact ⟨by simp, by simp⟩
    | some r =>
      have hl := Wire.readN_len (n := r.1) (k := r.2) hr
      have hp : 0 ≤ st.1 := by
        rcases Int.lt_or_le st.1 0 with h1 | h1
        · rw [bytesAt_neg h1, Wire.readN_nil] at hr; cases hr
        · exact h1
      rcases bytesAt_len (s := s) hp with h1 | h1
      · exact ⟨by simp; omega, by simp; omega⟩
      · rw [h1, Wire.readN_nil] at hr; cases hr
theorem takeT_in {s : ByteArray} (hs : s.size ≤ 140737488351232) {st : Int × Int} (h : In64 st) : In64 (takeT s st).2 := by
  unfold takeT
  split
  · exact h
  · cases hr : readT s st.1 with
    | none => exact ⟨by simp, by simp⟩
    | some r =>
      unfold readT at hr
      cases hn : readN (bytesAt s st.1) with
      | none => rw [hn] at hr; cases hr
      | some q =>
        rw [hn] at hr
        simp only at hr
        split at hr
        · rename_i hq
          cases hr
          have hp : 0 ≤ st.1 := by
            rcases Int.lt_or_le st.1 0 with h1 | h1
            · rw [bytesAt_neg h1, Wire.readN_nil] at hn; cases hn
            · exact h1
          exact ⟨by simp; omega, by simp; omega⟩
        · cases hr

/-- What lies in memory while it is read: the reader in block rb. -/
structure RC (ae : Addr) (w0 : World) (rb : Nat) (s : ByteArray) (st : Int × Int) (w : World) : Prop where
  env : Env ae w0
  below : Below w0.heap.size w0 w
  ge : w0.heap.size ≤ rb
  size : s.size ≤ 140737488351232
  in64 : In64 st
  c0 : w.cell? ⟨rb, 0, none⟩ = some (.string s)
  c1 : w.cell? ⟨rb, 1, none⟩ = some (.int .i64 st.1)
  c2 : w.cell? ⟨rb, 2, none⟩ = some (.int .i64 st.2)
  fr : ∀ i, w.frozen? ⟨rb, i, none⟩ = false
theorem RC.moved {ae : Addr} {w0 : World} {rb : Nat} {s : ByteArray} {st : Int × Int} {w w' : World} {S : Nat → Prop} (h : RC ae w0 rb s st w) (hm : Moved S w w') (h1 : ∀ k, S k → w0.heap.size ≤ k) (h2 : ¬ S rb) : RC ae w0 rb s st w' :=
  { h with
    below := Kit.Moved.below0 h.below hm h1 h.below.size
    c0 := (World.cell?_of_block (hm.block rb (Kit.lt_of_cell h.c0) h2)).trans h.c0
    c1 := (World.cell?_of_block (hm.block rb (Kit.lt_of_cell h.c0) h2)).trans h.c1
    c2 := (World.cell?_of_block (hm.block rb (Kit.lt_of_cell h.c0) h2)).trans h.c2
    fr := fun i => (World.frozen?_of_block (hm.block rb (Kit.lt_of_cell h.c0) h2)).trans (h.fr i) }
theorem RC.later {ae : Addr} {w0 : World} {rb : Nat} {s : ByteArray} {st : Int × Int} {w w' : World} (h : RC ae w0 rb s st w) (hB : Below w.heap.size w w') : RC ae w0 rb s st w' :=
  h.moved (Kit.Moved.of_below hB) (fun k hk => by have := h.below.size; omega) (by have := Kit.lt_of_cell h.c0; dsimp only at this; omega)
theorem RC.drew {ae : Addr} {w0 : World} {rb : Nat} {s : ByteArray} {st : Int × Int} {w : World} (h : RC ae w0 rb s st w) : RC ae w0 rb s st w.drew := h.later ((Below.refl _ _).drew)
theorem RC.Env {ae : Addr} {w0 : World} {rb : Nat} {s : ByteArray} {st : Int × Int} {w : World} (h : RC ae w0 rb s st w) : Env ae w := h.env.below h.below
/-- It writes its place, and what is told. -/
theorem RC.set {ae : Addr} {w0 : World} {rb : Nat} {s : ByteArray} {st st' : Int × Int} {w w1 : World} (h : RC ae w0 rb s st w) (hB : Below w.heap.size w w1) (hi : In64 st') :
    RC ae w0 rb s st' ((w1.setCell ⟨rb, 1, none⟩ (.int .i64 st'.1)).setCell ⟨rb, 2, none⟩ (.int .i64 st'.2)) ∧ Moved (fun j => j = rb) w ((w1.setCell ⟨rb, 1, none⟩ (.int .i64 st'.1)).setCell ⟨rb, 2, none⟩ (.int .i64 st'.2)) := by
  have h1 := h.later hB
  have m3 : Moved (fun j => j = rb) w1 ((w1.setCell ⟨rb, 1, none⟩ (.int .i64 st'.1)).setCell ⟨rb, 2, none⟩ (.int .i64 st'.2)) := (Kit.Moved.setCell (fun j => j = rb) w1 ⟨rb, 1, none⟩ _ rfl).trans (Kit.Moved.setCell (fun j => j = rb) _ ⟨rb, 2, none⟩ _ rfl) (fun _ _ h => h)
  refine ⟨{ h1 with in64 := hi, below := Kit.Moved.below0 h1.below m3 (fun k hk => by rw [hk]; exact h.ge) h1.below.size, c0 := ?_, c1 := ?_, c2 := ?_, fr := fun i => ?_ }, ?_⟩
  · simp [go_sem, h1.c0]
  · simp [go_sem, h1.c1]
  · simp [go_sem, h1.c2]
  · rw [World.frozen?_setCell, World.frozen?_setCell]; exact h1.fr i
  · exact ((Kit.Moved.of_below hB).mono (T := fun j => j = rb) (fun i hi hs => by omega)).trans m3 (fun _ _ h => h)
theorem RC.set2 {ae : Addr} {w0 : World} {rb : Nat} {s : ByteArray} {st : Int × Int} {w : World} (h : RC ae w0 rb s st w) (e : Int) :
    RC ae w0 rb s (st.1, e) (w.setCell ⟨rb, 2, none⟩ (.int .i64 e)) ∧ Moved (fun j => j = rb) w (w.setCell ⟨rb, 2, none⟩ (.int .i64 e)) := by
  have m3 : Moved (fun j => j = rb) w (w.setCell ⟨rb, 2, none⟩ (.int .i64 e)) := Kit.Moved.setCell _ _ _ _ rfl
  refine ⟨{ h with below := Kit.Moved.below0 h.below m3 (fun k hk => by rw [hk]; exact h.ge) h.below.size, c0 := ?_, c1 := ?_, c2 := ?_, fr := fun i => ?_ }, m3⟩
  · simp [go_sem, h.c0]
  · simp [go_sem, h.c1]
  · simp [go_sem, h.c2]
  · rw [World.frozen?_setCell]; exact h.fr i

set_option maxRecDepth 100000 in
set_option maxHeartbeats 1000000 in
theorem takeI_any (ae : Addr) (w0 : World) (rb : Nat) (s : ByteArray) (st : Int × Int) (w : World) (h : RC ae w0 rb s st w) :
    Calls Tryd.prog 79 #[.pointer (some ⟨rb, 0, none⟩), .func (.func 80) #[] #[]] w fun e w' =>
      e = .returned (.int .i64 (takeI s st).1) ∧ RC ae w0 rb s (takeI s st).2 w' ∧ Moved (fun j => j = rb) w w' := by
  obtain ⟨a, er⟩ := st
  have c0 := h.c0
  have c1 := h.c1
  have c2 := h.c2
  by_cases h0 : er = 0
  · subst h0
    have hin := takeI_in h.size h.in64
    have HV := takeI_V s a
    have HC := Lib.hid (Wire.readNum_any s h.size a h.in64.1 h.in64.2 ae w.drew h.Env.lt h.Env.err)
    have HS := Lib.hid (fun w1 (hB : Below w.heap.size w w1) => h.set (w1 := w1) (st' := (takeI s (a, 0)).2) hB hin)
    have HH := Lib.hid h
    rw [HV] at HC
    clear h hin HV
    go_enter Tryd.func79, Tryd.ntmps79
    go_upto_region 2 with fail
    go_region_law (first | (go_simp; go_at_call 80; refine HC.out.mono ?_; rintro e w1 ⟨rfl, hB⟩; have K1 := HH.out.drew.later hB; have HS2 := Lib.hid (HS.out w1 ((Below.refl _ _).drew.trans hB)); have d0 := K1.c0; have d1 := K1.c1; have d2 := K1.c2; have f1 := K1.fr 1; have f2 := K1.fr 2; clear K1 c0 c1 c2 hB))
    all_goals
      go_wp2
      go_ret
      exact ⟨rfl, HS2.out.1, HS2.out.2⟩
  · have he : (er == 0) = false := by simpa using h0
    have hr : takeI s (a, er) = (0, a, er) := by unfold takeI; rw [if_pos h0]
    rw [hr]
    have HH := Lib.hid h
    clear h hr h0
    go_enter Tryd.func79, Tryd.ntmps79
    go_wp2
    go_ret
    exact ⟨rfl, HH.out, Kit.Moved.refl _ _⟩
set_option maxRecDepth 100000 in
set_option maxHeartbeats 1000000 in
theorem takeT_any (ae : Addr) (w0 : World) (rb : Nat) (s : ByteArray) (st : Int × Int) (w : World) (h : RC ae w0 rb s st w) :
    Calls Tryd.prog 47 #[.pointer (some ⟨rb, 0, none⟩), .func (.func 48) #[] #[]] w fun e w' =>
      e = .returned (.string (takeT s st).1) ∧ RC ae w0 rb s (takeT s st).2 w' ∧ Moved (fun j => j = rb) w w' := by
  obtain ⟨a, er⟩ := st
  have c0 := h.c0
  have c1 := h.c1
  have c2 := h.c2
  by_cases h0 : er = 0
  · subst h0
    have hin := takeT_in h.size h.in64
    have HV := takeT_V s a
    have HC := Lib.hid (Wire.readText_any s h.size a h.in64.1 h.in64.2 ae w.drew h.Env.lt h.Env.err)
    have HS := Lib.hid (fun w1 (hB : Below w.heap.size w w1) => h.set (w1 := w1) (st' := (takeT s (a, 0)).2) hB hin)
    have HH := Lib.hid h
    rw [HV] at HC
    clear h hin HV
    go_enter Tryd.func47, Tryd.ntmps47
    go_upto_region 2 with fail
    go_region_law (first | (go_simp; go_at_call 48; refine HC.out.mono ?_; rintro e w1 ⟨rfl, hB⟩; have K1 := HH.out.drew.later hB; have HS2 := Lib.hid (HS.out w1 ((Below.refl _ _).drew.trans hB)); have d0 := K1.c0; have d1 := K1.c1; have d2 := K1.c2; have f1 := K1.fr 1; have f2 := K1.fr 2; clear K1 c0 c1 c2 hB))
    all_goals
      go_wp2
      go_ret
      exact ⟨rfl, HS2.out.1, HS2.out.2⟩
  · have he : (er == 0) = false := by simpa using h0
    have hr : takeT s (a, er) = (⟨#[]⟩, a, er) := by unfold takeT; rw [if_pos h0]
    rw [hr]
    have HH := Lib.hid h
    clear h hr h0
    go_enter Tryd.func47, Tryd.ntmps47
    go_wp2
    go_ret
    exact ⟨rfl, HH.out, Kit.Moved.refl _ _⟩
end Go.Proofs.YtmobnlofbopbeaaDoor.Cls
