/- Layer 2: the model of a disk, how a disk lies in memory, and what keeps it. -/
import Derived.Test.YthmpdnndfgmmfaaKit3
import Derived.Deep.MidRow
import Derived.Lib.Hide
namespace Go.Proofs.Ythmpdnndfgmmfaa.Disk
open Go.RowKit

/-! ### The model -/
structure Dk where
  n : Nat
  kept : Nat → List UInt8
  pend : List (Nat × List UInt8)
  cut : Bool
  left : Nat
structure Dk.Ok (D : Dk) : Prop where
  n1 : 1 ≤ D.n
  n2 : D.n ≤ 768
  kept : ∀ i, (D.kept i).length = 64
  pend : ∀ x ∈ D.pend, x.1 < D.n ∧ x.2.length = 64
  left : D.left ≤ 9223372036854775807
  few : D.pend.length ≤ 1000
def layK (K : Nat → List UInt8) (x : Nat × List UInt8) : Nat → List UInt8 := fun i => if i = x.1 then x.2 else K i
/-- What is there of a sector. -/
def Dk.there (D : Dk) (a : Nat) : List UInt8 := D.pend.foldl layK D.kept a
def Dk.powered (D : Dk) : Bool := !D.cut || D.left != 0
def Dk.spent (D : Dk) : Dk := if D.cut then { D with left := D.left - 1 } else D
def zeros : List UInt8 := List.replicate 64 0

/-! ### In memory -/
def byteV (b : UInt8) : Value := .int .u8 (b.toNat : Int)
def secV (s : List UInt8) : List Value := s.map byteV
def wrV (x : Nat × List UInt8) : List Value := .int .i64 (x.1 : Int) :: secV x.2
theorem secV_len (s : List UInt8) : (secV s).length = s.length := by simp [secV]
theorem wrV_len (x : Nat × List UInt8) : (wrV x).length = x.2.length + 1 := by simp [wrV, secV_len]
theorem secV_one (s : List UInt8) : ∀ v ∈ secV s, v.oneCell' = true := by
  intro v hv; simp only [secV, List.mem_map] at hv; obtain ⟨b, _, rfl⟩ := hv; rfl
theorem wrV_one (x : Nat × List UInt8) : ∀ v ∈ wrV x, v.oneCell' = true := by
  intro v hv; simp only [wrV, List.mem_cons] at hv
  rcases hv with rfl | hv
  · rfl
  · exact secV_one _ v hv

/-- w' is w but for blocks that meet S, and new ones. -/
structure Moved (S : Nat → Prop) (w w' : World) : Prop where
  os : w'.os = w.os
  tape : w'.tape = w.tape
  output : w'.output = w.output
  size : w.heap.size ≤ w'.heap.size
  block : ∀ k, k < w.heap.size → ¬ S k → w'.heap[k]? = w.heap[k]?
theorem Moved.refl (S : Nat → Prop) (w : World) : Moved S w w := ⟨rfl, rfl, rfl, Nat.le_refl _, fun _ _ _ => rfl⟩
theorem Moved.trans {S T : Nat → Prop} {a b c : World} (h : Moved S a b) (k : Moved T b c) (hT : ∀ i, i < a.heap.size → T i → S i) : Moved S a c :=
  ⟨k.os.trans h.os, k.tape.trans h.tape, k.output.trans h.output, Nat.le_trans h.size k.size, fun i hi hs =>
    (k.block i (Nat.lt_of_lt_of_le hi h.size) (fun ht => hs (hT i hi ht))).trans (h.block i hi hs)⟩
theorem Moved.mono {S T : Nat → Prop} {a b : World} (h : Moved S a b) (hT : ∀ i, i < a.heap.size → S i → T i) : Moved T a b :=
  ⟨h.os, h.tape, h.output, h.size, fun i hi ht => h.block i hi (fun hs => ht (hT i hi hs))⟩
theorem Moved.of_grownBy {w w' : World} {row : Option Nat} (h : w.grownBy w' row) : Moved (fun k => row = some k) w w' :=
  ⟨h.os, h.tape, h.output, h.size, fun k hk hr => h.block k hk (fun e => hr e.symm)⟩
theorem Moved.of_below {w w' : World} {B : Nat} (h : Below B w w') : Moved (fun k => B ≤ k) w w' :=
  ⟨h.os, h.tape, h.output, h.size, fun k _ hr => h.block k (by omega)⟩
theorem Moved.below {S : Nat → Prop} {w w' : World} {B : Nat} (h : Moved S w w') (hS : ∀ k, S k → B ≤ k) (hB : B ≤ w.heap.size) : Below B w w' :=
  ⟨h.os, h.tape, h.output, h.size, fun k hk => h.block k (by omega) (fun hs => by have := hS k hs; omega)⟩
theorem Moved.setCell (S : Nat → Prop) (w : World) (a : Addr) (v : Value) (h : S a.block) : Moved S w (w.setCell a v) :=
  (Moved.of_grownBy (Kit.grownBy_setCellAt w a v)).mono fun i _ e => by cases e; exact h
theorem Moved.alloc (S : Nat → Prop) (w : World) (o : Obj) : Moved S w (w.alloc o) :=
  (Moved.of_grownBy (World.grownBy_alloc w o none)).mono fun i _ e => by cases e
theorem moved_setCells (S : Nat → Prop) (b : Nat) (h : S b) : ∀ (vs : List Value) (o : Nat) (w : World), Moved S w (w.setCells b o vs)
  | [], _, w => Moved.refl S w
  | v :: r, o, w => (Moved.setCell S w ⟨b, o, none⟩ v h).trans (moved_setCells S b h r (o + 1) _) fun _ _ x => x

/-- Where a disk lies: its own cells, its sectors, and the value of what is pending. -/
structure Foot where
  p : Nat
  kb : Nat
  pv : Value
def Foot.has (F : Foot) (k : Nat) : Prop := k = F.p ∨ k = F.kb ∨ F.pv.ownBlock = some k

structure On (w : World) (F : Foot) (D : Dk) : Prop where
  ok : D.Ok
  box : w.heap[F.p]? = some (.cells #[.slice (some ⟨F.kb, 0, none⟩) D.n D.n, F.pv, .bool D.cut, .int .i64 (D.left : Int)] 58 (0, 0))
  ne : F.p ≠ F.kb
  sec : ∀ i, i < D.n → w.rangeAt F.kb (i * 64) (secV (D.kept i)) ∧ w.there F.kb (i * 64) 64
  row : w.ownsRow 0 63 65 F.pv D.pend.length (D.pend.flatMap wrV)
  ap1 : F.pv.ownBlock ≠ some F.p
  ap2 : F.pv.ownBlock ≠ some F.kb

theorem ownsRow_kept {w w' : World} {base : Nat} {e : TypeId} {size : Nat} {v : Value} {n : Nat} {xs : List Value} (h : w.ownsRow base e size v n xs) (hk : ∀ k, v.ownBlock = some k → w'.heap[k]? = w.heap[k]?) : w'.ownsRow base e size v n xs := by
  refine ⟨h.1, ?_⟩
  rcases h.2 with h2 | ⟨g, cap, cur, rfl, hb, hg, h3⟩
  · exact .inl h2
  · exact .inr ⟨g, cap, cur, rfl, hb, (hk g rfl).trans hg, h3⟩
theorem rangeAt_kept {w w' : World} {b o : Nat} {cs : List Value} (h : w.rangeAt b o cs) (hk : w'.heap[b]? = w.heap[b]?) : w'.rangeAt b o cs := fun j v hv => by
  rw [World.cell?_of_block (w := w) (w' := w') hk]; exact h j v hv
theorem there_kept {w w' : World} {b o n : Nat} (h : w.there b o n) (hk : w'.heap[b]? = w.heap[b]?) : w'.there b o n := fun j hj => by
  rw [World.cell?_of_block (w := w) (w' := w') hk, World.frozen?_of_block (w := w) (w' := w') hk]; exact h j hj

theorem On.keep {w w' : World} {F : Foot} {D : Dk} (h : On w F D) (hk : ∀ k, F.has k → w'.heap[k]? = w.heap[k]?) : On w' F D :=
  ⟨h.ok, (hk _ (.inl rfl)).trans h.box, h.ne, fun i hi => ⟨rangeAt_kept (h.sec i hi).1 (hk _ (.inr (.inl rfl))), there_kept (h.sec i hi).2 (hk _ (.inr (.inl rfl)))⟩,
    ownsRow_kept h.row (fun k e => hk k (.inr (.inr e))), h.ap1, h.ap2⟩
theorem On.plt {w : World} {F : Foot} {D : Dk} (h : On w F D) : F.p < w.heap.size := (Array.getElem?_eq_some_iff.1 h.box).1
theorem On.klt {w : World} {F : Foot} {D : Dk} (h : On w F D) : F.kb < w.heap.size := by
  obtain ⟨u, hu⟩ := Option.isSome_iff_exists.1 ((h.sec 0 (by have := h.ok.n1; omega)).2 0 (by omega)).1
  exact World.block_lt_of_cell? w _ hu
theorem On.lt {w : World} {F : Foot} {D : Dk} (h : On w F D) : ∀ k, F.has k → k < w.heap.size := by
  rintro k (rfl | rfl | e)
  · exact h.plt
  · exact h.klt
  · exact (h.row.lt k e).2
theorem On.moved {w w' : World} {F : Foot} {D : Dk} {S : Nat → Prop} (h : On w F D) (hm : Moved S w w') (hS : ∀ k, F.has k → ¬ S k) : On w' F D :=
  h.keep fun k hk => hm.block k (h.lt k hk) (hS k hk)

section
variable {w : World} {F : Foot} {D : Dk} (h : On w F D)
include h
theorem On.c0 : w.cell? ⟨F.p, 0, none⟩ = some (.slice (some ⟨F.kb, 0, none⟩) D.n D.n) := by rw [cell_of_row w F.p 0 _ _ _ h.box]; rfl
theorem On.c1 : w.cell? ⟨F.p, 1, none⟩ = some F.pv := by rw [cell_of_row w F.p 1 _ _ _ h.box]; rfl
theorem On.c2 : w.cell? ⟨F.p, 2, none⟩ = some (.bool D.cut) := by rw [cell_of_row w F.p 2 _ _ _ h.box]; rfl
theorem On.c3 : w.cell? ⟨F.p, 3, none⟩ = some (.int .i64 (D.left : Int)) := by rw [cell_of_row w F.p 3 _ _ _ h.box]; rfl
theorem On.fz (i : Nat) : w.frozen? ⟨F.p, i, none⟩ = false := by unfold World.frozen?; rw [h.box]; simp
end

theorem flatMap_at {α β : Type} (f : α → List β) (c : Nat) : ∀ (l : List α), (∀ x ∈ l, (f x).length = c) → ∀ (i j : Nat) (x : α), l[i]? = some x → j < c → (l.flatMap f)[i * c + j]? = (f x)[j]?
  | [], _, i, j, x, hx, _ => by simp at hx
  | a :: l, hl, 0, j, x, hx, hj => by
    simp at hx; subst hx
    rw [List.flatMap_cons, List.getElem?_append_left (by rw [hl a (by simp)]; omega)]; simp
  | a :: l, hl, i + 1, j, x, hx, hj => by
    have ha := hl a (by simp)
    rw [List.flatMap_cons, List.getElem?_append_right (by rw [ha, Nat.add_mul]; omega), ha, show (i + 1) * c + j - c = i * c + j by rw [Nat.add_mul]; omega]
    exact flatMap_at f c l (fun y hy => hl y (by simp [hy])) i j x (by simpa using hx) hj

/-- What the value of the pending writes is. -/
theorem On.pending {w : World} {F : Foot} {D : Dk} (h : On w F D) : (F.pv = .slice none 0 0 ∧ D.pend = []) ∨
    ∃ g cap, F.pv = .slice (some ⟨g, 0, none⟩) D.pend.length cap ∧ F.has g ∧ D.pend.length ≤ cap ∧ ∀ i x, D.pend[i]? = some x → w.rangeAt g (i * 65) (wrV x) := by
  rcases h.row.2 with ⟨h1, h2⟩ | ⟨g, cap, cur, h1, _, hg, hc, _, hs, ht⟩
  · exact .inl ⟨h1, List.length_eq_zero_iff.1 h2⟩
  · refine .inr ⟨g, cap, h1, .inr (.inr (by rw [h1]; rfl)), hc, fun i x hx j v hv => ?_⟩
    have hw : ∀ y ∈ D.pend, (wrV y).length = 65 := fun y hy => by rw [wrV_len, (h.ok.pend y hy).2]
    have hj : j < 65 := by have := (List.getElem?_eq_some_iff.1 hv).1; rw [hw x (List.mem_of_getElem? hx)] at this; exact this
    have hi : i < D.pend.length := (List.getElem?_eq_some_iff.1 hx).1
    rw [cell_of_row w g (i * 65 + j) _ _ _ hg, ← hv, ← flatMap_at wrV 65 D.pend hw i j x hx hj, ← ht, List.getElem?_take, if_pos (by omega), Array.getElem?_toList]

theorem heap_setCell_same (w : World) (b o : Nat) (v : Value) {C : Array Value} {t : TypeId} {fr : Nat × Nat} (h : w.heap[b]? = some (.cells C t fr)) : (w.setCell ⟨b, o, none⟩ v).heap[b]? = some (.cells (C.setIfInBounds o v) t fr) := by
  have hb := (Array.getElem?_eq_some_iff.1 h).1
  simp [World.setCell, Array.getElem?_modify, h]

/-- A field of the disk's own is set. -/
theorem On.field {w w' : World} {F : Foot} {D D' : Dk} (h : On w F D) (pv' : Value)
    (hb : w'.heap[F.p]? = some (.cells #[.slice (some ⟨F.kb, 0, none⟩) D.n D.n, pv', .bool D'.cut, .int .i64 (D'.left : Int)] 58 (0, 0))) (hk : w'.heap[F.kb]? = w.heap[F.kb]?)
    (hr : w'.ownsRow 0 63 65 pv' D'.pend.length (D'.pend.flatMap wrV)) (ho : D'.Ok) (hn : D'.n = D.n) (hK : D'.kept = D.kept) (ha1 : pv'.ownBlock ≠ some F.p) (ha2 : pv'.ownBlock ≠ some F.kb) : On w' { F with pv := pv' } D' :=
  ⟨ho, by rw [hn]; exact hb, h.ne, fun i hi => by rw [hn] at hi; rw [hK]; exact ⟨rangeAt_kept (h.sec i hi).1 hk, there_kept (h.sec i hi).2 hk⟩, hr, ha1, ha2⟩
end Go.Proofs.Ythmpdnndfgmmfaa.Disk
