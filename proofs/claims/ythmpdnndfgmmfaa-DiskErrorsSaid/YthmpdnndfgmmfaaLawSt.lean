/- Layer 2's laws: the state of a straight walk, and the calls over it. -/
import Derived.Test.YthmpdnndfgmmfaaLawSynced
namespace Go.Proofs.Ythmpdnndfgmmfaa.Disk
open Go.RowKit

/-- Disks in a world that is the law's first one but for what is new. -/
def St (w0 w : World) (L : List (Nat × Dk)) : Prop := Held w (fun k => k < w0.heap.size) L ∧ Below w0.heap.size w0 w
theorem St.go {w0 w w' : World} {L M : List (Nat × Dk)} (h : St w0 w L) (t : Then w w' (fun k => k < w0.heap.size) M) : St w0 w' M :=
  ⟨t.1, h.2.trans (t.2.below (fun k hk => by omega) h.2.size)⟩
theorem St.grow {w0 w w' : World} {L : List (Nat × Dk)} (h : St w0 w L) (hb : Below w.heap.size w w') : St w0 w' L := h.go (h.1.grow hb)
theorem St.awake (w0 : World) : Calls Try.prog 11 #[] w0 fun e w' => e = .returned (.bool true) ∧ St w0 w' [] :=
  (awake_any w0).mono fun _ w' ⟨h1, h2⟩ => ⟨h1, Held.nil w' _ (fun _ hk => Nat.lt_of_lt_of_le hk h2.size), h2⟩

/-- A slice of texts. -/
def StrsAt (w : World) (v : Value) (ss : List ByteArray) : Prop :=
  (∃ a cap, v = .slice a 0 cap ∧ ss = []) ∨ ∃ b o cap, v = .slice (some ⟨b, o, none⟩) ss.length cap ∧ b < w.heap.size ∧ ss.length ≤ cap ∧ ∀ j s, ss[j]? = some s → w.cell? ⟨b, o + j, none⟩ = some (.string s)
/-- A slice of calls that the law was handed. -/
structure Had (w0 : World) (v : Value) (cs : List CallD) : Prop where
  lies : CallsAt w0 v cs
  ok : ∀ c ∈ cs, c.Ok
  len : cs.length ≤ 9223372036854775807
theorem Had.nil (w0 : World) : Had w0 (.slice none 0 0) [] := ⟨.inl ⟨_, _, rfl, rfl⟩, by simp, by simp⟩

section
variable {w0 w : World} {L : List (Nat × Dk)} (h : St w0 w L)
include h
theorem St.filled {sv pv : Value} {ss ps : List CallD} (hs : Had w0 sv ss) (hp : Had w0 pv ps) :
    Calls Try.prog 12 #[sv, pv] w fun e w' => ∃ p, e = .returned (.pointer (some ⟨p, 0, none⟩)) ∧ St w0 w' (L ++ [(p, filledD ss ps)]) := by
  refine (filled_held h.1 sv pv ss ps (hs.lies.below h.2) (hp.lies.below h.2) hs.ok hp.ok hs.lies.own hp.lies.own hs.len hp.len).mono ?_
  rintro e w' ⟨p, rfl, _, hT⟩
  exact ⟨p, rfl, h.go hT⟩
theorem St.full (s : ByteArray) (hs : s.size ≤ 9223372036854775807) : Calls Try.prog 18 #[.string s] w fun e w' => e = .returned (.string (strB (fullB s))) ∧ St w0 w' L :=
  (full_held h.1 s hs).mono fun _ _ ⟨h1, h2⟩ => ⟨h1, h.go h2⟩
theorem St.keep {v : Value} {xs : List Int} (hv : IntsAt w0 v xs) (hxb : ∀ x ∈ xs, -9223372036854775808 ≤ x ∧ x ≤ 9223372036854775807) (hlen : xs.length ≤ 9223372036854775807) (many : Nat) (hm : many ≤ 1000) :
    Calls Try.prog 14 #[v, .int .i64 (many : Int)] w fun e w' => ∃ v', e = .returned v' ∧ IntsAt w' v' (intsOf (keepN xs many)) ∧ (∀ b, v'.ownBlock = some b → w.heap.size ≤ b ∧ b < w'.heap.size) ∧ Below w.heap.size w w' :=
  keep_any xs hxb hlen v w (ints_keep hv h.2) many hm
section
variable (i : Nat) {p : Nat} {D : Dk} (hi : L[i]? = some (p, D))
include hi
theorem St.all : Calls Try.prog 19 #[.pointer (some ⟨p, 0, none⟩)] w fun e w' => e = .returned (.string (strB D.all)) ∧ St w0 w' L :=
  (all_held h.1 hi).mono fun _ _ ⟨h1, h2⟩ => ⟨h1, h.go h2⟩
theorem St.pending : Calls Try.prog 15 #[.pointer (some ⟨p, 0, none⟩)] w fun e w' => e = .returned (.int .i64 (D.pend.length : Int)) ∧ w = w' := pending_held h.1 hi
theorem St.write (few : D.pend.length < 1000) {a : Int} (ha : -9223372036854775808 ≤ a ∧ a ≤ 9223372036854775807) {s : ByteArray} {D' : Dk} {r : Int} (hD : D.write a s = (D', r)) {L' : List (Nat × Dk)} (hL : L.set i (p, D') = L') :
    Calls Try.prog 21 #[.pointer (some ⟨p, 0, none⟩), .int .i64 a, .string s] w fun e w' => e = .returned (.int .i64 r) ∧ St w0 w' L' :=
  (write_as h.1 i hi few ha hD hL).mono fun _ _ ⟨h1, h2⟩ => ⟨h1, h.go h2⟩
theorem St.sync {D' : Dk} {r : Int} (hD : D.syncE = (D', r)) {L' : List (Nat × Dk)} (hL : L.set i (p, D') = L') :
    Calls Try.prog 20 #[.pointer (some ⟨p, 0, none⟩)] w fun e w' => e = .returned (.int .i64 r) ∧ St w0 w' L' :=
  (sync_as h.1 i hi hD hL).mono fun _ _ ⟨h1, h2⟩ => ⟨h1, h.go h2⟩
theorem St.crash0 {D' : Dk} {r : Int} (hD : D.crashE [] = (D', r)) {L' : List (Nat × Dk)} (hL : L.set i (p, D') = L') :
    Calls Try.prog 13 #[.pointer (some ⟨p, 0, none⟩), .slice none 0 0] w fun e w' => e = .returned (.int .i64 r) ∧ St w0 w' L' :=
  (crash_nil h.1 i hi hD hL).mono fun _ _ ⟨h1, h2⟩ => ⟨h1, h.go h2⟩
/-- Of a list that lies in blocks that are new since the state. -/
theorem St.crash (xs : List Int) (hlen : xs.length ≤ 1000) (hxb : ∀ x ∈ xs, -9223372036854775808 ≤ x ∧ x ≤ 9223372036854775807) {w1 : World} (hb : Below w.heap.size w w1) {v : Value} (hv : IntsAt w1 v xs) (hA : ∀ b, v.ownBlock = some b → w.heap.size ≤ b ∧ b < w1.heap.size)
    {D' : Dk} {r : Int} (hD : D.crashE xs = (D', r)) {L' : List (Nat × Dk)} (hL : L.set i (p, D') = L') :
    Calls Try.prog 13 #[.pointer (some ⟨p, 0, none⟩), v] w1 fun e w' => e = .returned (.int .i64 r) ∧ St w0 w' L' :=
  (crash_new h.1 i hi xs hlen hxb hb hv hA hD hL).mono fun _ _ ⟨h1, h2⟩ => ⟨h1, h.go h2⟩
theorem St.crashLit (xs : List Int) (hlen : xs.length ≤ 1000) (hxb : ∀ x ∈ xs, -9223372036854775808 ≤ x ∧ x ≤ 9223372036854775807) {n : Nat} (hn : n = xs.length) {C : Array Value} (hC : C = (xs.map (Value.int .i64)).toArray)
    {D' : Dk} {r : Int} (hD : D.crashE xs = (D', r)) {L' : List (Nat × Dk)} (hL : L.set i (p, D') = L') :
    Calls Try.prog 13 #[.pointer (some ⟨p, 0, none⟩), .slice (some ⟨w.heap.size, 0, none⟩) n n] (w.alloc (.cells C 3)) fun e w' => e = .returned (.int .i64 r) ∧ St w0 w' L' :=
  (crash_lit h.1 i hi xs hlen hxb hn hC hD hL).mono fun _ _ ⟨h1, h2⟩ => ⟨h1, h.go h2⟩
theorem St.rot {a q m : Int} (ha : -9223372036854775808 ≤ a ∧ a ≤ 9223372036854775807) {D' : Dk} {r : Int} (hD : D.rotR a q m = (D', r)) {L' : List (Nat × Dk)} (hL : L.set i (p, D') = L') :
    Calls Try.prog 22 #[.pointer (some ⟨p, 0, none⟩), .int .i64 a, .int .i64 q, .int .i64 m] w fun e w' => e = .returned (.int .i64 r) ∧ St w0 w' L' :=
  (rot_as h.1 i hi ha hD hL).mono fun _ _ ⟨h1, h2⟩ => ⟨h1, h.go h2⟩
theorem St.cut {n : Int} (hn : -9223372036854775808 ≤ n ∧ n ≤ 9223372036854775807) {D' : Dk} {r : Int} (hD : D.cutE n = (D', r)) {L' : List (Nat × Dk)} (hL : L.set i (p, D') = L') :
    Calls Try.prog 23 #[.pointer (some ⟨p, 0, none⟩), .int .i64 n] w fun e w' => e = .returned (.int .i64 r) ∧ St w0 w' L' :=
  (cut_as h.1 i hi hn hD hL).mono fun _ _ ⟨h1, h2⟩ => ⟨h1, h.go h2⟩
theorem St.read {a : Int} (ha : -9223372036854775808 ≤ a ∧ a ≤ 9223372036854775807) {s : ByteArray} {r : Int} (hD : D.read a = (s, r)) :
    Calls Try.prog 16 #[.pointer (some ⟨p, 0, none⟩), .int .i64 a] w fun e w' => e = .returned (.tuple #[.string s, .int .i64 r]) ∧ St w0 w' L :=
  (read_as h.1 i hi ha hD).mono fun _ _ ⟨h1, h2⟩ => ⟨h1, h.go h2⟩
end
end

theorem all_congr {D E : Dk} (hn : D.n = E.n) (h : ∀ a, D.there a = E.there a) : D.all = E.all := by
  unfold Dk.all; rw [hn, show D.there = E.there from funext h]
theorem there_of_kept {D E : Dk} (hD : D.pend = []) (hE : E.pend = []) (h : D.kept = E.kept) (a : Nat) : D.there a = E.there a := by rw [there_nil D hD, there_nil E hE, h]
theorem picked_all (D : Dk) : D.picked (intsOf (List.range D.pend.length)) = D.pend := by
  unfold Dk.picked intsOf
  rw [List.map_map]
  apply List.ext_getElem?
  intro j
  rw [List.getElem?_map]
  by_cases hj : j < D.pend.length
  · rw [List.getElem?_range hj]
    simp [List.getD, List.getElem?_eq_getElem hj]
  · rw [List.getElem?_eq_none (by simpa using hj), List.getElem?_eq_none (by omega)]; rfl
theorem okKeep_range (m : Nat) : okKeep m (intsOf (List.range m)) = true := by
  unfold okKeep intsOf
  rw [decide_eq_true_iff]
  refine ⟨fun k hk => ?_, ?_⟩
  · obtain ⟨j, hj, rfl⟩ := List.mem_map.1 hk
    have := List.mem_range.1 hj
    omega
  · have := List.nodup_range (n := m)
    rw [List.nodup_iff_pairwise_ne, List.pairwise_map] at *
    exact this.imp fun h e => h (by omega)
/-- A power loss that keeps all leaves what was there. -/
theorem crash_range (D : Dk) : D.crashE (intsOf (List.range D.pend.length)) = (D.crash (intsOf (List.range D.pend.length)), 0) := crashE_good D _ _ rfl (okKeep_range _)
theorem all_range (D : Dk) : (D.crash (intsOf (List.range D.pend.length))).all = D.all := by
  refine all_congr rfl fun a => ?_
  rw [there_nil _ rfl]
  show ((D.picked _).foldl layK D.kept) a = _
  rw [picked_all]; rfl
theorem filled_powered (ss ps : List CallD) : (filledD ss ps).powered = true := rfl
theorem filled_n (ss ps : List CallD) : (filledD ss ps).n = 6 := rfl
end Go.Proofs.Ythmpdnndfgmmfaa.Disk
