/- A row that the call owns: kept, its last four cells set; the operations of a list by their places. -/
import Derived.Test.YtbmhlpojgiminaaGreatDoorKit7
import Derived.Test.YtbmhlpojgiminaaGreatDoorKit3
import Derived.Laws.OwnMore
import Derived.Deep.MidRow
namespace Go.Proofs.YtbmhlpojgiminaaGreatDoor.Kit
open Go.RowKit

theorem at0 {o0 : Oper} {l : List Oper} : (o0 :: l).toArray[0]? = some o0 := rfl
theorem at1 {o0 o1 : Oper} {l : List Oper} : (o0 :: o1 :: l).toArray[1]? = some o1 := rfl
theorem at2 {o0 o1 o2 : Oper} {l : List Oper} : (o0 :: o1 :: o2 :: l).toArray[2]? = some o2 := rfl
theorem at3 {o0 o1 o2 o3 : Oper} {l : List Oper} : (o0 :: o1 :: o2 :: o3 :: l).toArray[3]? = some o3 := rfl
theorem at4 {o0 o1 o2 o3 o4 : Oper} {l : List Oper} : (o0 :: o1 :: o2 :: o3 :: o4 :: l).toArray[4]? = some o4 := rfl
theorem at5 {o0 o1 o2 o3 o4 o5 : Oper} {l : List Oper} : (o0 :: o1 :: o2 :: o3 :: o4 :: o5 :: l).toArray[5]? = some o5 := rfl
theorem at6 {o0 o1 o2 o3 o4 o5 o6 : Oper} {l : List Oper} : (o0 :: o1 :: o2 :: o3 :: o4 :: o5 :: o6 :: l).toArray[6]? = some o6 := rfl
theorem at7 {o0 o1 o2 o3 o4 o5 o6 o7 : Oper} {l : List Oper} : (o0 :: o1 :: o2 :: o3 :: o4 :: o5 :: o6 :: o7 :: l).toArray[7]? = some o7 := rfl
theorem at8 {o0 o1 o2 o3 o4 o5 o6 o7 o8 : Oper} {l : List Oper} : (o0 :: o1 :: o2 :: o3 :: o4 :: o5 :: o6 :: o7 :: o8 :: l).toArray[8]? = some o8 := rfl
theorem at9 {o0 o1 o2 o3 o4 o5 o6 o7 o8 o9 : Oper} {l : List Oper} : (o0 :: o1 :: o2 :: o3 :: o4 :: o5 :: o6 :: o7 :: o8 :: o9 :: l).toArray[9]? = some o9 := rfl
theorem at10 {o0 o1 o2 o3 o4 o5 o6 o7 o8 o9 o10 : Oper} {l : List Oper} : (o0 :: o1 :: o2 :: o3 :: o4 :: o5 :: o6 :: o7 :: o8 :: o9 :: o10 :: l).toArray[10]? = some o10 := rfl
theorem at11 {o0 o1 o2 o3 o4 o5 o6 o7 o8 o9 o10 o11 : Oper} {l : List Oper} : (o0 :: o1 :: o2 :: o3 :: o4 :: o5 :: o6 :: o7 :: o8 :: o9 :: o10 :: o11 ::  l).toArray[11]? = some o11 := rfl
theorem at12 {o0 o1 o2 o3 o4 o5 o6 o7 o8 o9 o10 o11 o12 : Oper} {l : List Oper} : (o0 :: o1 :: o2 :: o3 :: o4 :: o5 :: o6 :: o7 :: o8 :: o9 :: o10 :: o11 :: o12 ::  l).toArray[12]? = some o12 := rfl
theorem at13 {o0 o1 o2 o3 o4 o5 o6 o7 o8 o9 o10 o11 o12 o13 : Oper} {l : List Oper} : (o0 :: o1 :: o2 :: o3 :: o4 :: o5 :: o6 :: o7 :: o8 :: o9 :: o10 :: o11 :: o12 :: o13 ::  l).toArray[13]? = some o13 := rfl
theorem at14 {o0 o1 o2 o3 o4 o5 o6 o7 o8 o9 o10 o11 o12 o13 o14 : Oper} {l : List Oper} : (o0 :: o1 :: o2 :: o3 :: o4 :: o5 :: o6 :: o7 :: o8 :: o9 :: o10 :: o11 :: o12 :: o13 :: o14 ::  l).toArray[14]? = some o14 := rfl
theorem at15 {o0 o1 o2 o3 o4 o5 o6 o7 o8 o9 o10 o11 o12 o13 o14 o15 : Oper} {l : List Oper} : (o0 :: o1 :: o2 :: o3 :: o4 :: o5 :: o6 :: o7 :: o8 :: o9 :: o10 :: o11 :: o12 :: o13 :: o14 :: o15 ::  l).toArray[15]? = some o15 := rfl
theorem at16 {o0 o1 o2 o3 o4 o5 o6 o7 o8 o9 o10 o11 o12 o13 o14 o15 o16 : Oper} {l : List Oper} : (o0 :: o1 :: o2 :: o3 :: o4 :: o5 :: o6 :: o7 :: o8 :: o9 :: o10 :: o11 :: o12 :: o13 :: o14 :: o15 :: o16 ::  l).toArray[16]? = some o16 := rfl
theorem at17 {o0 o1 o2 o3 o4 o5 o6 o7 o8 o9 o10 o11 o12 o13 o14 o15 o16 o17 : Oper} {l : List Oper} : (o0 :: o1 :: o2 :: o3 :: o4 :: o5 :: o6 :: o7 :: o8 :: o9 :: o10 :: o11 :: o12 :: o13 :: o14 :: o15 :: o16 :: o17 ::  l).toArray[17]? = some o17 := rfl
theorem at18 {o0 o1 o2 o3 o4 o5 o6 o7 o8 o9 o10 o11 o12 o13 o14 o15 o16 o17 o18 : Oper} {l : List Oper} : (o0 :: o1 :: o2 :: o3 :: o4 :: o5 :: o6 :: o7 :: o8 :: o9 :: o10 :: o11 :: o12 :: o13 :: o14 :: o15 :: o16 :: o17 :: o18 ::  l).toArray[18]? = some o18 := rfl
theorem ownsRow_kept {w w' : World} {base : Nat} {e : TypeId} {size : Nat} {v : Value} {n : Nat} {xs : List Value} (h : w.ownsRow base e size v n xs) (hk : ∀ k, v.ownBlock = some k → w'.heap[k]? = w.heap[k]?) : w'.ownsRow base e size v n xs := by
  refine ⟨h.1, ?_⟩
  rcases h.2 with h2 | ⟨g, cap, cur, rfl, hb, hg, h3⟩
  · exact .inl h2
  · exact .inr ⟨g, cap, cur, rfl, hb, (hk g rfl).trans hg, h3⟩
theorem ownsRow_moved {w w' : World} {S : Nat → Prop} {base : Nat} {e : TypeId} {size : Nat} {v : Value} {n : Nat} {xs : List Value} (h : w.ownsRow base e size v n xs) (hm : Moved S w w') (hS : ∀ k, base ≤ k → ¬ S k) : w'.ownsRow base e size v n xs :=
  ownsRow_kept h fun k hk => hm.block k (h.lt k hk).2 (hS k (h.lt k hk).1)
theorem ownsRow_frozen {w : World} {base : Nat} {e : TypeId} {size : Nat} {v : Value} {n : Nat} {xs : List Value} (h : w.ownsRow base e size v n xs) {g : Nat} (hg : v.ownBlock = some g) (i : Nat) : w.frozen? ⟨g, i, none⟩ = false := by
  rcases h.2 with ⟨rfl, _⟩ | ⟨g', cap, cur, rfl, hb, hh, h3⟩
  · cases hg
  · cases hg
    simp [World.frozen?, hh]
theorem heap_setCell_same (w : World) (b o : Nat) (v : Value) {C : Array Value} {t : TypeId} {fr : Nat × Nat} (h : w.heap[b]? = some (.cells C t fr)) : (w.setCell ⟨b, o, none⟩ v).heap[b]? = some (.cells (C.setIfInBounds o v) t fr) := by
  have hb := (Array.getElem?_eq_some_iff.1 h).1
  simp [World.setCell, Array.getElem?_modify, h]

theorem take_set (l xs : List Value) (o : Nat) (v : Value) (n : Nat) (h : l.take n = xs) (_ho : o < n) : (l.set o v).take n = xs.set o v := by
  rw [← h, List.take_set]
theorem set_mid (xs ys : List Value) (o : Nat) (v : Value) (_h : o < ys.length) : (xs ++ ys).set (xs.length + o) v = xs ++ ys.set o v := by
  rw [List.set_append_right _ _ (by omega), Nat.add_sub_cancel_left]

/-- One cell of an own row is set. -/
theorem ownsRow_set {w : World} {base : Nat} {e : TypeId} {size g n cap : Nat} {xs : List Value} (h : w.ownsRow base e size (.slice (some ⟨g, 0, none⟩) n cap) n xs) (o : Nat) (v : Value) (ho : o < n * size) :
    (w.setCell ⟨g, o, none⟩ v).ownsRow base e size (.slice (some ⟨g, 0, none⟩) n cap) n (xs.set o v) := by
  rcases h.2 with ⟨h1, _⟩ | ⟨g', cap', cur, h1, hb, hh, h3, h4, h5, h6⟩
  · cases h1
  · cases h1
    refine ⟨by rw [List.length_set]; exact h.1, .inr ⟨g, cap, cur.setIfInBounds o v, rfl, hb, heap_setCell_same w g o v hh, h3, h4, by rw [Array.size_setIfInBounds]; exact h5, ?_⟩⟩
    rw [Array.toList_setIfInBounds]
    exact take_set _ _ _ _ _ h6 ho
/-- The last four cells of an own row are set. -/
theorem ownsRow_set4 {w : World} {base : Nat} {e : TypeId} {g n cap : Nat} {xs : List Value} {a b c d v0 v1 v2 v3 : Value} (h : w.ownsRow base e 4 (.slice (some ⟨g, 0, none⟩) (n + 1) cap) (n + 1) (xs ++ [a, b, c, d])) (hn : xs.length = n * 4) :
    ((((w.setCell ⟨g, n * 4, none⟩ v0).setCell ⟨g, n * 4 + 1, none⟩ v1).setCell ⟨g, n * 4 + 2, none⟩ v2).setCell ⟨g, n * 4 + 3, none⟩ v3).ownsRow base e 4 (.slice (some ⟨g, 0, none⟩) (n + 1) cap) (n + 1) (xs ++ [v0, v1, v2, v3]) := by
  have h1 := ownsRow_set h (n * 4) v0 (by omega)
  have h2 := ownsRow_set h1 (n * 4 + 1) v1 (by omega)
  have h3 := ownsRow_set h2 (n * 4 + 2) v2 (by omega)
  have h4 := ownsRow_set h3 (n * 4 + 3) v3 (by omega)
  have e0 := set_mid xs [a, b, c, d] 0 v0 (by simp)
  have e1 := set_mid xs [v0, b, c, d] 1 v1 (by simp)
  have e2 := set_mid xs [v0, v1, c, d] 2 v2 (by simp)
  have e3 := set_mid xs [v0, v1, v2, d] 3 v3 (by simp)
  rw [hn] at e0 e1 e2 e3
  simp only [Nat.add_zero, List.set_cons_zero, List.set_cons_succ] at e0 e1 e2 e3
  rw [e0, e1, e2, e3] at h4
  exact h4
theorem ownsRow_succ' {w : World} {base : Nat} {e : TypeId} {size : Nat} {v : Value} {n : Nat} {xs : List Value} (h : w.ownsRow base e size v (n + 1) xs) : ∃ g cap, v = .slice (some ⟨g, 0, none⟩) (n + 1) cap ∧ base ≤ g ∧ g < w.heap.size := by
  rcases h.2 with ⟨_, h2⟩ | ⟨g, cap, cur, h1, hb, hh, _⟩
  · omega
  · exact ⟨g, cap, h1, hb, (Array.getElem?_eq_some_iff.1 hh).1⟩
theorem cell_alloc_drew {w : World} {a : Addr} {v : Value} (h : w.cell? a = some v) (o : Obj) : (w.drew.alloc o).cell? a = some v := cell_kept o (cell_drew h)
end Go.Proofs.YtbmhlpojgiminaaGreatDoor.Kit
