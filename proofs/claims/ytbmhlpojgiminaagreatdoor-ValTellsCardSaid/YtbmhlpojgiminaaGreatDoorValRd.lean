/- Layer 3: the reader of bytes: its closures. -/
import Derived.Test.YtbmhlpojgiminaaGreatDoorValEnc
import Derived.Test.YtbmhlpojgiminaaGreatDoorKit7
namespace Go.Proofs.YtbmhlpojgiminaaGreatDoor.Val
open Go.RowKit
open Kit (ret_int ret_bool Moved)
open Wire (readN bytesAt)

/-- What a function value asks of a number. -/
def AskI (g : Nat) (lb : Array Value) (p : Int → Bool) (w : World) : Prop :=
  ∀ (n : Int) (W : World), -9223372036854775808 ≤ n → n ≤ 9223372036854775807 → Below w.heap.size w W → Calls Tryz.prog g (#[.int .i64 n] ++ lb) W fun e w' => e = .returned (.bool (p n)) ∧ Below W.heap.size W w'
theorem AskI.later {g : Nat} {lb : Array Value} {p : Int → Bool} {w W : World} (h : AskI g lb p w) (hB : Below w.heap.size w W) : AskI g lb p W :=
  fun n W' h1 h2 hb => h n W' h1 h2 (hB.trans (hb.mono hB.size))

/-- A number that is read at a place, under an error: it, the place behind, and the error. -/
def rdI (s : ByteArray) (p : Int → Bool) (st : Int × Int) : Int × Int × Int :=
  if st.2 ≠ 0 then (0, st) else match readN (bytesAt s st.1) with | none => (0, 0, 10) | some r => if p r.1 then (r.1, st.1 + (r.2 : Int), 0) else (0, 0, 30)
def rdT (s : ByteArray) (st : Int × Int) : ByteArray × Int × Int :=
  if st.2 ≠ 0 then (bs [], st) else match Wire.readT s st.1 with | none => (bs [], 0, 10) | some r => if rightT r.1 then (r.1, r.2, 0) else (bs [], 0, 30)

theorem rdI_0 (s : ByteArray) (p : Int → Bool) (a : Int) : rdI s p (a, 0) = match readN (bytesAt s a) with | none => (0, 0, 10) | some r => if p r.1 then (r.1, a + (r.2 : Int), 0) else (0, 0, 30) := by
  unfold rdI; simp
theorem rdT_0 (s : ByteArray) (a : Int) : rdT s (a, 0) = match Wire.readT s a with | none => (bs [], 0, 10) | some r => if rightT r.1 then (r.1, r.2, 0) else (bs [], 0, 30) := by
  unfold rdT; simp

theorem bytesAt_len {s : ByteArray} {a : Int} {n : Int} {z : Nat} (h : readN (bytesAt s a) = some (n, z)) (h0 : 0 ≤ a) (_h1 : a ≤ s.size) : 0 ≤ a + (z : Int) ∧ a + (z : Int) ≤ s.size := by
  have h2 := Wire.readN_len h
  have : (bytesAt s a).length = s.size - a.toNat := by unfold bytesAt; rw [if_pos h0]; simp
  omega

set_option maxRecDepth 100000 in
set_option maxHeartbeats 1000000 in
theorem checkedI (ae : Addr) (g : Nat) (lb : Array Value) (eg : ∀ args w, (callFunc g args).run Tryz.prog w = .ok (.enter g args) w) (p : Int → Bool) (s : ByteArray) (hs : s.size ≤ 140737488351232) (a : Int) (h0 : 0 ≤ a) (h1 : a ≤ s.size) (w : World) (hE : Env ae w) (hp : AskI g lb p w) :
    Calls Tryz.prog 86 #[.func (.func 87) #[] #[], .string s, .int .i64 a, .func (.func g) #[] lb] w fun e w' =>
      e = .returned (.tuple #[.int .i64 (rdI s p (a, 0)).1, .int .i64 (rdI s p (a, 0)).2.1, .int .i64 (rdI s p (a, 0)).2.2]) ∧ Below w.heap.size w w' := by
  have hc := Wire.readNum_any s hs a (by omega) (by omega) ae w hE.lt hE.err
  unfold Wire.readNumV at hc
  rw [rdI_0]
  clear hE
  cases hr : readN (bytesAt s a) with
  | none =>
    rw [hr] at hc
    have HC := Lib.hid hc
    clear hc hr hp
    go_enter Tryz.func86, Tryz.ntmps86
    go_wp2_with fail
    refine HC.out.mono ?_; rintro e w' ⟨rfl, hB⟩
    go_wp2
    go_ret3
    exact ⟨rfl, hB⟩
  | some r =>
    obtain ⟨n, z⟩ := r
    rw [hr] at hc
    have hn := Wire.readN_range hr
    have HC := Lib.hid hc
    have HP := Lib.hid (fun W hW => hp n W hn.1 hn.2 hW)
    clear hc hr hp hn
    simp only
    cases hpn : p n
    · rw [hpn] at HP
      simp only [Bool.false_eq_true, if_false]
      clear hpn
      go_enter Tryz.func86, Tryz.ntmps86
      go_wp2_with fail
      refine HC.out.mono ?_; rintro e w' ⟨rfl, hB⟩
      go_wp2_with (go_at_fn g; refine (HP.out _ hB).mono ?_; rintro e w2 ⟨rfl, hB2⟩)
      go_ret3
      exact ⟨rfl, hB.trans (hB2.mono hB.size)⟩
    · rw [hpn] at HP
      simp only [if_true]
      clear hpn
      go_enter Tryz.func86, Tryz.ntmps86
      go_wp2_with fail
      refine HC.out.mono ?_; rintro e w' ⟨rfl, hB⟩
      go_wp2_with (go_at_fn g; refine (HP.out _ hB).mono ?_; rintro e w2 ⟨rfl, hB2⟩)
      go_ret3
      exact ⟨rfl, hB.trans (hB2.mono hB.size)⟩

set_option maxRecDepth 100000 in
set_option maxHeartbeats 1000000 in
theorem checkedT (ae : Addr) (s : ByteArray) (hs : s.size ≤ 140737488351232) (a : Int) (h0 : 0 ≤ a) (h1 : a ≤ s.size) (w : World) (hE : Env ae w) :
    Calls Tryz.prog 89 #[.func (.func 90) #[] #[], .string s, .int .i64 a, .func (.func 35) #[] #[]] w fun e w' =>
      e = .returned (.tuple #[.string (rdT s (a, 0)).1, .int .i64 (rdT s (a, 0)).2.1, .int .i64 (rdT s (a, 0)).2.2]) ∧ Below w.heap.size w w' := by
  have hc := Wire.readText_any s hs a (by omega) (by omega) ae w hE.lt hE.err
  unfold Wire.readTextV at hc
  rw [rdT_0]
  cases hr : Wire.readT s a with
  | none =>
    rw [hr] at hc
    have HC := Lib.hid hc
    clear hc hr hE
    go_enter Tryz.func89, Tryz.ntmps89
    go_wp2_with fail
    refine HC.out.mono ?_; rintro e w' ⟨rfl, hB⟩
    go_wp2
    go_ret3
    exact ⟨rfl, hB⟩
  | some r =>
    obtain ⟨t, z⟩ := r
    rw [hr] at hc
    have ht : t.size ≤ 140737488351232 := by
      unfold Wire.readT at hr
      cases h : readN (bytesAt s a) with
      | none => rw [h] at hr; cases hr
      | some q =>
        rw [h] at hr
        simp only at hr
        split at hr
        · cases hr
          rw [ByteArray.size_extract]; omega
        · cases hr
    have HC := Lib.hid hc
    have HP := Lib.hid (fun W hW => rightText_any ae t ht W (hE.below hW))
    clear hc hr hE ht
    simp only
    cases hpn : rightT t
    · rw [hpn] at HP
      simp only [Bool.false_eq_true, if_false]
      clear hpn
      go_enter Tryz.func89, Tryz.ntmps89
      go_wp2_with fail
      refine HC.out.mono ?_; rintro e w' ⟨rfl, hB⟩
      go_wp2_with (go_at_call 35; refine (HP.out _ hB).mono ?_; rintro e w2 ⟨rfl, hB2⟩)
      go_ret3
      exact ⟨rfl, hB.trans (hB2.mono hB.size)⟩
    · rw [hpn] at HP
      simp only [if_true]
      clear hpn
      go_enter Tryz.func89, Tryz.ntmps89
      go_wp2_with fail
      refine HC.out.mono ?_; rintro e w' ⟨rfl, hB⟩
      go_wp2_with (go_at_call 35; refine (HP.out _ hB).mono ?_; rintro e w2 ⟨rfl, hB2⟩)
      go_ret3
      exact ⟨rfl, hB.trans (hB2.mono hB.size)⟩

/-- What a reader's functions share: the error, the text, the place, in boxes that came behind w0. -/
structure RS (ae : Addr) (w0 : World) (be s0 ba : Nat) (s : ByteArray) (st : Int × Int) (w : World) : Prop where
  env : Env ae w0
  below : Below w0.heap.size w0 w
  geE : w0.heap.size ≤ be
  geA : w0.heap.size ≤ ba
  ea : be ≠ ba
  es : be ≠ s0
  sa : s0 ≠ ba
  size : s.size ≤ 140737488351232
  lo : 0 ≤ st.1
  hi : st.1 ≤ s.size
  boxE : Boxed w be 33 (.int .i64 st.2)
  boxS : Boxed w s0 9 (.string s)
  boxA : Boxed w ba 3 (.int .i64 st.1)
/-- The blocks that it writes. -/
def Own (be ba k : Nat) : Prop := k = be ∨ k = ba

theorem RS.moved {ae : Addr} {w0 : World} {be s0 ba : Nat} {s : ByteArray} {st : Int × Int} {w w' : World} {S : Nat → Prop} (h : RS ae w0 be s0 ba s st w) (hm : Moved S w w') (h1 : ∀ k, S k → w0.heap.size ≤ k) (he : ¬ S be) (h2 : ¬ S s0) (ha : ¬ S ba) : RS ae w0 be s0 ba s st w' :=
  { h with below := Kit.Moved.below0 h.below hm h1 h.below.size, boxE := Kit.boxed_moved h.boxE hm he, boxS := Kit.boxed_moved h.boxS hm h2, boxA := Kit.boxed_moved h.boxA hm ha }
theorem RS.later {ae : Addr} {w0 : World} {be s0 ba : Nat} {s : ByteArray} {st : Int × Int} {w w' : World} (h : RS ae w0 be s0 ba s st w) (hB : Below w.heap.size w w') : RS ae w0 be s0 ba s st w' :=
  h.moved (Kit.Moved.of_below hB) (fun k hk => by have := h.below.size; omega) (by have := h.boxE.lt; omega) (by have := h.boxS.lt; omega) (by have := h.boxA.lt; omega)
theorem RS.Env {ae : Addr} {w0 : World} {be s0 ba : Nat} {s : ByteArray} {st : Int × Int} {w : World} (h : RS ae w0 be s0 ba s st w) : Env ae w := h.env.below h.below

theorem rdI_in {s : ByteArray} {p : Int → Bool} {st : Int × Int} (h0 : 0 ≤ st.1) (h1 : st.1 ≤ s.size) : 0 ≤ (rdI s p st).2.1 ∧ (rdI s p st).2.1 ≤ s.size := by
  unfold rdI
  split
  · exact ⟨h0, h1⟩
  · cases hr : readN (bytesAt s st.1) with
    | none => simp only; omega
    | some r =>
      simp only
      split
      · exact bytesAt_len hr h0 h1
      · simp only; omega
theorem readT_in {s : ByteArray} {a : Int} {r : ByteArray × Int} (h : Wire.readT s a = some r) (h0 : 0 ≤ a) : 0 ≤ r.2 ∧ r.2 ≤ s.size := by
  unfold Wire.readT at h
  cases hq : readN (bytesAt s a) with
  | none => rw [hq] at h; cases h
  | some q =>
    rw [hq] at h
    simp only at h
    split at h
    · cases h; simp only; omega
    · cases h
theorem rdT_in {s : ByteArray} {st : Int × Int} (h0 : 0 ≤ st.1) (h1 : st.1 ≤ s.size) : 0 ≤ (rdT s st).2.1 ∧ (rdT s st).2.1 ≤ s.size := by
  unfold rdT
  split
  · exact ⟨h0, h1⟩
  · cases hr : Wire.readT s st.1 with
    | none => simp only; omega
    | some r =>
      simp only
      split
      · exact readT_in hr h0
      · simp only; omega

theorem RS.set {ae : Addr} {w0 : World} {be s0 ba : Nat} {s : ByteArray} {st st' : Int × Int} {w w1 : World} (h : RS ae w0 be s0 ba s st w) (hB : Below w.heap.size w w1) (hl : 0 ≤ st'.1) (hh : st'.1 ≤ s.size) :
    RS ae w0 be s0 ba s st' ((w1.setCell ⟨ba, 0, none⟩ (.int .i64 st'.1)).setCell ⟨be, 0, none⟩ (.int .i64 st'.2)) ∧ Moved (Own be ba) w ((w1.setCell ⟨ba, 0, none⟩ (.int .i64 st'.1)).setCell ⟨be, 0, none⟩ (.int .i64 st'.2)) := by
  have h1 := h.later hB
  have m1 : Moved (Own be ba) w1 (w1.setCell ⟨ba, 0, none⟩ (.int .i64 st'.1)) := Kit.Moved.setCell _ _ _ _ (.inr rfl)
  have m2 : Moved (Own be ba) (w1.setCell ⟨ba, 0, none⟩ (.int .i64 st'.1)) ((w1.setCell ⟨ba, 0, none⟩ (.int .i64 st'.1)).setCell ⟨be, 0, none⟩ (.int .i64 st'.2)) := Kit.Moved.setCell _ _ _ _ (.inl rfl)
  have m3 := m1.trans m2 (fun _ _ h => h)
  refine ⟨{ h1 with lo := hl, hi := hh, below := Kit.Moved.below0 h1.below m3 (fun k hk => by rcases hk with rfl | rfl; exact h.geE; exact h.geA) h1.below.size, boxE := ?_, boxS := ?_, boxA := ?_ }, ?_⟩
  · exact (h1.boxE.other h.ea _).set _
  · exact (h1.boxS.other h.sa _).other h.es.symm _
  · exact ((h1.boxA.set _).other h.ea.symm _)
  · exact ((Kit.Moved.of_below hB).mono (T := Own be ba) (fun i hi hs => by omega)).trans m3 (fun _ _ h => h)

set_option maxRecDepth 100000 in
set_option maxHeartbeats 1000000 in
/-- Reading a number. -/
theorem readI (ae : Addr) (w0 : World) (be s0 ba : Nat) (s : ByteArray) (st : Int × Int) (w : World) (h : RS ae w0 be s0 ba s st w) (g : Nat) (lb : Array Value) (eg : ∀ args w, (callFunc g args).run Tryz.prog w = .ok (.enter g args) w) (p : Int → Bool) (hp : AskI g lb p w) :
    Calls Tryz.prog 85 #[.func (.func g) #[] lb, .pointer (some ⟨be, 0, none⟩), .pointer (some ⟨s0, 0, none⟩), .pointer (some ⟨ba, 0, none⟩)] w fun e w' =>
      e = .returned (.int .i64 (rdI s p st).1) ∧ RS ae w0 be s0 ba s (rdI s p st).2 w' ∧ Moved (Own be ba) w w' := by
  obtain ⟨a, er⟩ := st
  have cE := h.boxE.cell
  have cS := h.boxS.cell
  have cA := h.boxA.cell
  by_cases h0 : er = 0
  · subst h0
    have hin := rdI_in (p := p) h.lo h.hi
    have HC := Lib.hid (checkedI ae g lb eg p s h.size a h.lo h.hi w h.Env hp)
    have HS := Lib.hid (fun w1 hB => h.set (w1 := w1) (st' := (rdI s p (a, 0)).2) hB hin.1 hin.2)
    have HH := Lib.hid h
    clear h hin
    go_enter Tryz.func85, Tryz.ntmps85
    go_wp2_with fail
    refine HC.out.mono ?_; rintro e w1 ⟨rfl, hB⟩
    have fA := (HH.out.later hB).boxA.frozen
    have fE := (HH.out.later hB).boxE.frozen
    have dA := (HH.out.later hB).boxA.cell
    have dE := (HH.out.later hB).boxE.cell
    have hne := HH.out.ea
    have HS2 := HS.out w1 hB
    clear cE cS cA
    go_wp2
    go_ret
    exact ⟨rfl, HS2.1, HS2.2⟩
  · have he : (er == 0) = false := by simpa using h0
    have hr : rdI s p (a, er) = (0, a, er) := by unfold rdI; rw [if_pos h0]
    rw [hr]
    have HH := Lib.hid h
    clear h hr h0 hp
    go_enter Tryz.func85, Tryz.ntmps85
    go_wp2
    go_ret
    exact ⟨rfl, HH.out, Kit.Moved.refl _ _⟩

set_option maxRecDepth 100000 in
set_option maxHeartbeats 1000000 in
/-- Reading a text. -/
theorem readTx (ae : Addr) (w0 : World) (be s0 ba : Nat) (s : ByteArray) (st : Int × Int) (w : World) (h : RS ae w0 be s0 ba s st w) :
    Calls Tryz.prog 88 #[.func (.func 35) #[] #[], .pointer (some ⟨be, 0, none⟩), .pointer (some ⟨s0, 0, none⟩), .pointer (some ⟨ba, 0, none⟩)] w fun e w' =>
      e = .returned (.string (rdT s st).1) ∧ RS ae w0 be s0 ba s (rdT s st).2 w' ∧ Moved (Own be ba) w w' := by
  obtain ⟨a, er⟩ := st
  have cE := h.boxE.cell
  have cS := h.boxS.cell
  have cA := h.boxA.cell
  by_cases h0 : er = 0
  · subst h0
    have hin := rdT_in h.lo h.hi
    have HC := Lib.hid (checkedT ae s h.size a h.lo h.hi w h.Env)
    have HS := Lib.hid (fun w1 hB => h.set (w1 := w1) (st' := (rdT s (a, 0)).2) hB hin.1 hin.2)
    have HH := Lib.hid h
    clear h hin
    go_enter Tryz.func88, Tryz.ntmps88
    go_wp2_with fail
    refine HC.out.mono ?_; rintro e w1 ⟨rfl, hB⟩
    have fA := (HH.out.later hB).boxA.frozen
    have fE := (HH.out.later hB).boxE.frozen
    have dA := (HH.out.later hB).boxA.cell
    have dE := (HH.out.later hB).boxE.cell
    have hne := HH.out.ea
    have HS2 := HS.out w1 hB
    clear cE cS cA
    go_wp2
    go_ret
    exact ⟨rfl, HS2.1, HS2.2⟩
  · have he : (er == 0) = false := by simpa using h0
    have hr : rdT s (a, er) = (bs [], a, er) := by unfold rdT; rw [if_pos h0]
    rw [hr]
    have HH := Lib.hid h
    clear h hr h0
    go_enter Tryz.func88, Tryz.ntmps88
    go_wp2
    go_ret
    exact ⟨rfl, HH.out, Kit.Moved.refl _ _⟩
end Go.Proofs.YtbmhlpojgiminaaGreatDoor.Val
