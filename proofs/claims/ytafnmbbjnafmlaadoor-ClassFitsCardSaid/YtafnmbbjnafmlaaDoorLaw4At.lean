/- Layer 4's laws: classes at a place, and copies of them. -/
import Derived.Test.YtafnmbbjnafmlaaDoorLaw4Ex
import Derived.Test.YtafnmbbjnafmlaaDoorClassMath3
namespace Go.Proofs.YtafnmbbjnafmlaaDoor.Cls
open Go.RowKit
open Kit (ret_int ret_bool Moved)
open Val (Env flat bs Vl Rep RepL)

attribute [local go_sem] Oper.semAt_some

/-- A class whose fields lie at a place. -/
structure At (W : World) (bc : Nat) (V : Cl) (b o c : Nat) : Prop where
  c0 : W.cell? ⟨bc, 0, none⟩ = some (.string V.nm)
  c1 : W.cell? ⟨bc, 1, none⟩ = some (.slice (some ⟨b, o, none⟩) V.l.length c)
  row : W.rangeAt b o (V.l.flatMap cellsFd)
  lt : b < W.heap.size
  len : V.l.length ≤ 1000
theorem At.later {W W' : World} {bc b o c : Nat} {V : Cl} (h : At W bc V b o c) (hB : Below W.heap.size W W') : At W' bc V b o c :=
  ⟨(hB.cell (p := ⟨bc, 0, none⟩) (Kit.lt_of_cell h.c0)).trans h.c0, (hB.cell (p := ⟨bc, 1, none⟩) (Kit.lt_of_cell h.c1)).trans h.c1, Val.rangeAt_heap h.row (hB.block b h.lt), Nat.lt_of_lt_of_le h.lt hB.size, h.len⟩
theorem At.fd {W : World} {bc b o c : Nat} {V : Cl} (h : At W bc V b o c) : FdL W.heap.size W V.l (.slice (some ⟨b, o, none⟩) V.l.length c) :=
  .inr ⟨b, o, c, h.lt, rfl, by have := h.len; unfold maxLen; omega, h.row⟩
theorem At.nm {W : World} {bc b o c : Nat} {V : Cl} (h : At W bc V b o c) {k : Nat} {f : Fd} (hk : V.l[k]? = some f) : W.cell? ⟨b, o + k * 4, none⟩ = some (.string f.nm) := by
  have := h.row (k * 4) _ (cells_at V.l k f hk 0 _ rfl)
  simpa using this
theorem At.cells {W : World} {bc b o c : Nat} {V : Cl} (h : At W bc V b o c) : ∀ (j : Nat) (u : Value), (V.l.flatMap cellsFd)[j]? = some u → W.cell? ((⟨b, o, none⟩ : Addr).add j) = some u := fun j u hu => by
  rw [Addr.add_mid]; exact h.row j u hu
theorem cellsFds_one (l : List Fd) : ∀ u ∈ l.flatMap cellsFd, u.oneCell' = true := by
  intro u hu
  obtain ⟨x, _, h⟩ := List.mem_flatMap.1 hu
  exact cellsFd_one x u h
/-- Where one cell of a list of fields is set. -/
theorem cells_set : ∀ (l : List Fd) (k : Nat) (f g : Fd) (j : Nat) (v : Value), l[k]? = some f → (cellsFd f).set j v = cellsFd g → j < 4 → (l.flatMap cellsFd).set (k * 4 + j) v = (l.set k g).flatMap cellsFd
  | [], _, _, _, _, _, h, _, _ => by simp at h
  | y :: r, 0, f, g, j, v, h, hs, hj => by
    simp only [List.getElem?_cons_zero, Option.some.injEq] at h
    subst h
    rw [List.flatMap_cons, List.set_append_left _ _ (by simp; omega), Nat.zero_mul, Nat.zero_add, hs, List.set_cons_zero, List.flatMap_cons]
  | y :: r, k + 1, f, g, j, v, h, hs, hj => by
    rw [List.flatMap_cons, List.set_append_right _ _ (by simp; omega), show (k + 1) * 4 + j - (cellsFd y).length = k * 4 + j from by simp; omega, cells_set r k f g j v (by simpa using h) hs hj, List.set_cons_succ, List.flatMap_cons]

/-- What lies in memory while a class is copied: the box, and a row of its own. -/
structure CpW (w : World) (nm : ByteArray) (cv : Value) (n : Nat) (xs : List Value) (lv : Value) (W : World) : Prop where
  c0 : W.cell? ⟨w.heap.size, 0, none⟩ = some (.string nm)
  c1 : W.cell? ⟨w.heap.size, 1, none⟩ = some cv
  cf : ∀ i, W.frozen? ⟨w.heap.size, i, none⟩ = false
  row : W.ownsRow (w.heap.size + 1) 47 4 lv n xs
  below : Below w.heap.size w W
  sz : w.heap.size + 1 ≤ W.heap.size
theorem CpW.begins (w : World) (nm : ByteArray) (cv : Value) : CpW w nm cv 0 [] (.slice none 0 0) (w.alloc (.cells #[.string nm, cv] 27)) :=
  ⟨Kit.cell_new w #[.string nm, cv] 27 0 rfl, Kit.cell_new w #[.string nm, cv] 27 1 rfl, fun i => Kit.frozen_new _ _ _ i, World.ownsRow_nil _ _ _ _, Kit.below_alloc _ _, by simp⟩
theorem CpW.grow {w : World} {nm : ByteArray} {cv : Value} {n n' : Nat} {xs xs' : List Value} {lv lv' : Value} {W W' : World} {S : Nat → Prop} (h : CpW w nm cv n xs lv W) (hm : Moved S W W') (hS : ∀ j, S j → w.heap.size + 1 ≤ j)
    (hown : W'.ownsRow (w.heap.size + 1) 47 4 lv' n' xs') : CpW w nm cv n' xs' lv' W' := by
  have hz := h.sz
  have hn : ¬ S w.heap.size := fun hs => by have := hS _ hs; omega
  exact ⟨Val.cell_moved h.c0 hm hn, Val.cell_moved h.c1 hm hn, fun i => (World.frozen?_of_block (hm.block w.heap.size (by omega) hn)).trans (h.cf i), hown, h.below.trans (hm.below (fun k hk => by have := hS k hk; omega) (by omega)), Nat.le_trans hz hm.size⟩
theorem CpW.alloc {w : World} {nm : ByteArray} {cv : Value} {n : Nat} {xs : List Value} {lv : Value} {W : World} (h : CpW w nm cv n xs lv W) (o : Obj) : CpW w nm cv n xs lv (W.alloc o) :=
  h.grow (S := fun _ => False) (Moved.alloc _ W o) (fun _ h => h.elim) (h.row.alloc o)
theorem CpW.drew {w : World} {nm : ByteArray} {cv : Value} {n : Nat} {xs : List Value} {lv : Value} {W : World} (h : CpW w nm cv n xs lv W) : CpW w nm cv n xs lv W.drew :=
  h.grow (S := fun _ => False) ((Moved.refl _ W).trans (Moved.of_below (B := W.heap.size + W.heap.size) ((Below.refl _ W).drew)) (fun i hi hs => by omega)) (fun _ h => h.elim) (Kit.ownsRow_kept h.row fun _ _ => rfl)
theorem CpW.stored {w : World} {nm : ByteArray} {cv : Value} {n : Nat} {xs : List Value} {lv : Value} {W : World} (h : CpW w nm cv n xs lv W) : CpW w nm lv n xs lv (W.setCell ⟨w.heap.size, 1, none⟩ lv) := by
  have hz := h.sz
  have hm : Moved (fun j => j = w.heap.size) W (W.setCell ⟨w.heap.size, 1, none⟩ lv) := Moved.setCell _ _ _ _ rfl
  exact ⟨(World.cell?_setCell_other _ _ _ _ (by simp)).trans h.c0, World.cell?_setCell_same _ _ _ h.c1, fun i => (World.frozen?_setCell _ _ _ _).trans (h.cf i), Kit.ownsRow_kept h.row fun j hj => hm.block j (h.row.lt j hj).2 (by have := (h.row.lt j hj).1; omega), h.below.trans (hm.below (fun k hk => by omega) (by omega)), Nat.le_trans hz hm.size⟩
theorem CpW.set {w : World} {nm : ByteArray} {cv : Value} {g cap n : Nat} {xs : List Value} {W : World} (h : CpW w nm cv n xs (.slice (some ⟨g, 0, none⟩) n cap) W) (o : Nat) (v : Value) (ho : o < n * 4) : CpW w nm cv n (xs.set o v) (.slice (some ⟨g, 0, none⟩) n cap) (W.setCell ⟨g, o, none⟩ v) := by
  have hg := (h.row.lt g rfl).1
  exact h.grow (S := fun j => j = g) (Moved.setCell _ _ _ _ rfl) (fun j hj => by omega) (Kit.ownsRow_set h.row o v ho)
theorem CpW.at {w : World} {nm : ByteArray} {g cap n : Nat} {xs : List Value} {W : World} (h : CpW w nm (.slice (some ⟨g, 0, none⟩) n cap) n xs (.slice (some ⟨g, 0, none⟩) n cap) W) {l : List Fd} (hx : xs = l.flatMap cellsFd) (hn : n = l.length) (hl : l.length ≤ 1000) : At W w.heap.size ⟨nm, l⟩ g 0 cap := by
  subst hx hn
  exact ⟨h.c0, h.c1, fun j u hu => by have := h.row.cells (g := g) rfl j u hu; rw [Addr.add_mid] at this; exact this, (h.row.lt g rfl).2, hl⟩
theorem CpW.cellAt {w : World} {nm : ByteArray} {cv : Value} {g cap n : Nat} {l : List Fd} {W : World} (h : CpW w nm cv n (l.flatMap cellsFd) (.slice (some ⟨g, 0, none⟩) n cap) W) {k j : Nat} {f : Fd} {v : Value} (hk : l[k]? = some f) (hv : (cellsFd f)[j]? = some v) : W.cell? ⟨g, k * 4 + j, none⟩ = some v ∧ W.frozen? ⟨g, k * 4 + j, none⟩ = false := by
  refine ⟨?_, Kit.ownsRow_frozen h.row rfl _⟩
  have := h.row.cells (g := g) rfl (k * 4 + j) v (cells_at l k f hk j v hv)
  rw [Addr.add_mid, Nat.zero_add] at this
  exact this
theorem fieldR_nm {f : Fd} (h : fieldR f = true) : rightNm f.nm = true := by
  unfold fieldR at h
  rw [Bool.and_eq_true] at h
  exact h.1
theorem once_wide {c : Cl} (hc : clsR c = true) {k : Nat} {f : Fd} (hk : c.l[k]? = some f) :
    ∃ D : List Fd, D = c.l.set k ⟨f.nm, 5, 1, true⟩ ∧ D.length = c.l.length ∧ D[k]? = some ⟨f.nm, 5, 1, true⟩ ∧ clsR ⟨c.nm, D⟩ = false ∧ clsR ⟨c.nm, D.set k ⟨f.nm, 5, 1, false⟩⟩ = true := by
  have hlt : k < c.l.length := (List.getElem?_eq_some_iff.1 hk).1
  have hn := fieldR_nm (((clsR_iff c).1 hc).2.2.1 k f hk)
  refine ⟨_, rfl, by simp, by simp [hlt], ?_, ?_⟩
  · rw [once_flat hc hk (g := ⟨f.nm, 5, 1, true⟩) rfl]
    show (rightNm f.nm && (Val.rightTy 5 1 && (!true || indexK 5))) = false
    rw [show (Val.rightTy 5 1 && (!true || indexK 5)) = false from rfl, Bool.and_false]
  · rw [List.set_set, once_flat hc hk (g := ⟨f.nm, 5, 1, false⟩) rfl]
    show (rightNm f.nm && (Val.rightTy 5 1 && (!false || indexK 5))) = true
    rw [hn]; rfl
theorem once_data {V : Cl} (hr : clsR V = true) {k : Nat} {f : Fd} (hk : V.l[k]? = some f) (b : UInt8) (hn : ∃ j, j < 6 ∧ f.nm = nameN j) :
    ∃ (m : Bool) (place : Int), clsR ⟨V.nm, V.l.set k ⟨f.nm ++ ⟨#[b]⟩, f.k, f.o, f.ix⟩⟩ = (nameByte b.toNat && m) ∧ fieldV V.l (f.nm ++ ⟨#[b]⟩) = .tuple #[.int .i64 place, .bool (!m)] ∧ fieldV V.l f.nm = .tuple #[.int .i64 (k : Int), .bool true] ∧ clsR ⟨V.nm, V.l ++ [⟨f.nm, 1, 0, false⟩]⟩ = false := by
  obtain ⟨j, hj, he⟩ := hn
  refine ⟨decide (fieldAt V.l (f.nm ++ ⟨#[b]⟩) < 0), if fieldAt V.l (f.nm ++ ⟨#[b]⟩) < 0 then 0 else fieldAt V.l (f.nm ++ ⟨#[b]⟩), ?_, ?_, ?_, once_twice hk rfl⟩
  · have h2 : rightNm (f.nm ++ ⟨#[b]⟩) = nameByte b.toNat := by rw [he]; exact ext_right hj b
    rw [← h2]
    exact once_odd hr hk (g := ⟨f.nm ++ ⟨#[b]⟩, f.k, f.o, f.ix⟩) (more_ne _ _) rfl rfl rfl
  · unfold fieldV
    by_cases h : fieldAt V.l (f.nm ++ ⟨#[b]⟩) < 0
    · rw [if_pos h, decide_eq_true h, if_pos h]; rfl
    · rw [if_neg h, decide_eq_false h, if_neg h]; rfl
  · have h := fieldAt_apart ((clsR_iff V).1 hr).2.2.2 hk
    unfold fieldV
    rw [h, if_neg (by omega)]
theorem nameN_size (i : Nat) : (nameN i).size ≤ 8 := by
  unfold nameN
  repeat' split
  all_goals decide
theorem ownsRow_pos {w : World} {base : Nat} {e : TypeId} {size : Nat} {v : Value} {n : Nat} {xs : List Value} (h : w.ownsRow base e size v n xs) (hn : 0 < n) : ∃ g cap, v = .slice (some ⟨g, 0, none⟩) n cap := by
  obtain ⟨m, rfl⟩ : ∃ m, n = m + 1 := ⟨n - 1, by omega⟩
  obtain ⟨g, cap, h, -, -⟩ := Kit.ownsRow_succ' h
  exact ⟨g, cap, h⟩
theorem newF (W : World) (f : Fd) : ∀ (j : Nat) (u : Value), (cellsFd f)[j]? = some u → (W.alloc (.cells (cellsFd f).toArray 47)).cell? ((⟨W.heap.size, 0, none⟩ : Addr).add j) = some u := fun j u hu => by
  rw [Addr.add_mid]
  exact Kit.cell_new W _ _ (0 + j) (by rw [Nat.zero_add, List.getElem?_toArray]; exact hu)
end Go.Proofs.YtafnmbbjnafmlaaDoor.Cls
