/- What has moved, but for some blocks. -/
import Derived.Test.YtbmhlpojgiminaaGreatDoorKit6
import Derived.RangeFuncNested
namespace Go.Proofs.YtbmhlpojgiminaaGreatDoor.Kit
open Go.RowKit

/-- w' is w but for blocks that meet S, and new ones. -/
structure Moved (S : Nat → Prop) (w w' : World) : Prop where
  os : w'.os = w.os
  tape : w'.tape = w.tape
  output : w'.output = w.output
  size : w.heap.size ≤ w'.heap.size
  block : ∀ k, k < w.heap.size → ¬ S k → w'.heap[k]? = w.heap[k]?
theorem Moved.refl (S : Nat → Prop) (w : World) : Moved S w w := ⟨rfl, rfl, rfl, Nat.le_refl _, fun _ _ _ => rfl⟩
theorem Moved.trans {S T : Nat → Prop} {a b c : World} (h : Moved S a b) (k : Moved T b c) (hT : ∀ i, i < a.heap.size → T i → S i) : Moved S a c :=
  ⟨k.os.trans h.os, k.tape.trans h.tape, k.output.trans h.output, Nat.le_trans h.size k.size, fun i hi hs =>
    (k.block i (Nat.lt_of_lt_of_le hi h.size) (fun ht => hs (hT i hi ht))).trans (h.block i hi hs)⟩
theorem Moved.mono {S T : Nat → Prop} {a b : World} (h : Moved S a b) (hT : ∀ i, i < a.heap.size → S i → T i) : Moved T a b :=
  ⟨h.os, h.tape, h.output, h.size, fun i hi ht => h.block i hi (fun hs => ht (hT i hi hs))⟩
theorem Moved.of_grownBy {w w' : World} {row : Option Nat} (h : w.grownBy w' row) : Moved (fun k => row = some k) w w' :=
  ⟨h.os, h.tape, h.output, h.size, fun k hk hr => h.block k hk (fun e => hr e.symm)⟩
theorem Moved.of_below {w w' : World} {B : Nat} (h : Below B w w') : Moved (fun k => B ≤ k) w w' :=
  ⟨h.os, h.tape, h.output, h.size, fun k _ hr => h.block k (by omega)⟩
theorem Moved.below {S : Nat → Prop} {w w' : World} {B : Nat} (h : Moved S w w') (hS : ∀ k, S k → B ≤ k) (hB : B ≤ w.heap.size) : Below B w w' :=
  ⟨h.os, h.tape, h.output, h.size, fun k hk => h.block k (by omega) (fun hs => by have := hS k hs; omega)⟩
theorem Moved.setCell (S : Nat → Prop) (w : World) (a : Addr) (v : Value) (h : S a.block) : Moved S w (w.setCell a v) :=
  (Moved.of_grownBy (grownBy_setCellAt w a v)).mono fun i _ e => by cases e; exact h
theorem Moved.alloc (S : Nat → Prop) (w : World) (o : Obj) : Moved S w (w.alloc o) :=
  (Moved.of_grownBy (World.grownBy_alloc w o none)).mono fun i _ e => by cases e
theorem moved_setCells (S : Nat → Prop) (b : Nat) (h : S b) : ∀ (vs : List Value) (o : Nat) (w : World), Moved S w (w.setCells b o vs)
  | [], _, w => Moved.refl S w
  | v :: r, o, w => (Moved.setCell S w ⟨b, o, none⟩ v h).trans (moved_setCells S b h r (o + 1) _) fun _ _ x => x

theorem Moved.below0 {S : Nat → Prop} {a b c : World} {n : Nat} (h : Below n a b) (hm : Moved S b c) (hS : ∀ k, S k → n ≤ k) (hn : n ≤ b.heap.size) : Below n a c := h.trans (hm.below hS hn)
theorem boxed_moved {S : Nat → Prop} {w w' : World} {b : Nat} {t : TypeId} {v : Value} (h : Boxed w b t v) (hm : Moved S w w') (hS : ¬ S b) : Boxed w' b t v := (hm.block b h.lt hS).trans h
end Go.Proofs.YtbmhlpojgiminaaGreatDoor.Kit
