/- Layer 3's laws: odd: a list's copy, and more behind it. -/
import Derived.Test.YtbmhlpojgiminaaGreatDoorMB
import Derived.Test.YtbmhlpojgiminaaGreatDoorME
import Derived.Test.YtbmhlpojgiminaaGreatDoorValFits
import Derived.Deep.RegionHeld
namespace Go.Proofs.YtbmhlpojgiminaaGreatDoor.Val
open Go.RowKit
open Kit (ret_int ret_bool Moved)

attribute [local go_sem] Oper.semAt_some

/-- One thing of a value is another one. -/
def oddV (x : Vl) (K : Nat) (n : Int) (s : ByteArray) : Vl :=
  if K = 0 then .mk n x.n x.s x.l else if K = 1 then .mk x.k n x.s x.l else if K = 2 then .mk x.k x.n s x.l
  else if K = 3 then .mk x.k x.n x.s (x.l ++ [flat (pickN n 7) n (bs [])])
  else if K = 4 then .mk x.k x.n x.s (x.l ++ (List.range (pickN n 14)).map fun (i : Nat) => flat 1 (i : Int) (bs []))
  else .mk x.k x.n x.s [x]

/-- What odd answers. -/
def Keeps (w : World) (io : Option Nat) (l : List Vl) (lv : Value) (w' : World) : Prop := ∀ (b : Nat) (W' : World), b < w.heap.size → io ≠ some b → Moved (fun j => j = b) w' W' → RepL W'.heap.size W' l lv
def OddPost (w : World) (io : Option Nat) (x : Vl) (e : Ending) (w' : World) : Prop := (∃ lv, e = .returned (aggV x.k x.n x.s lv) ∧ RepL w'.heap.size w' x.l lv ∧ Keeps w io x.l lv w') ∧ Below w.heap.size w w'
/-- A list of values without lists stays, whatever is written into another old block. -/
theorem keeps_flat {w w' : World} {io : Option Nat} {l : List Vl} {lv : Value} (hf : ∀ y ∈ l, y.isFlat) (h : RepL w'.heap.size w' l lv) (ho : ∀ j, lv.ownBlock = some j → io = some j ∨ w.heap.size ≤ j) : Keeps w io l lv w' := fun b W' hb hi hm =>
  h.keep1 hf (fun j hj => hm.block j (h.lt j hj) (fun e => by
    subst e
    rcases ho j hj with h1 | h1
    · exact hi h1
    · omega)) hm.size

set_option maxRecDepth 100000 in
set_option maxHeartbeats 4000000 in
theorem odd_plain (x : Vl) (hf : ∀ y ∈ x.l, y.isFlat) (c n : Int) (s : ByteArray) (c1 : -9223372036854775808 ≤ c) (c2 : c ≤ 9223372036854775807) (B : Nat) (w : World) (lv : Value) (hB : B ≤ w.heap.size) (hl : RepL B w x.l lv) (h3 : pickN c 6 ≠ 3) (h4 : pickN c 6 ≠ 4) :
    Calls Tryz.prog 6 #[aggV x.k x.n x.s lv, .int .i64 c, .int .i64 n, .string s] w (OddPost w lv.ownBlock (oddV x (pickN c 6) n s)) := by
  obtain ⟨la, lc, rfl, -⟩ := hl.len
  have hr := rep_in hl
  have hP := pick_any c c1 c2 6 (by decide) (by decide)
  have h6 := pickN_lt c (n := 6) (by decide)
  generalize pickN c 6 = K at *
  have HP := Lib.hid hP
  have HL := Lib.hid (And.intro hB (And.intro hl hr))
  have HF := Lib.hid hf
  clear hP hr hl hB c1 c2 hf
  have hK : K = 0 ∨ K = 1 ∨ K = 2 ∨ K = 5 := by omega
  clear h3 h4 h6
  rcases hK with rfl | rfl | rfl | rfl
  all_goals
    go_enter Tryz.func6, Tryz.ntmps6
    go_wp2_with fail
    refine (HP.out _).mono ?_; rintro e w' ⟨rfl, rfl⟩
    go_wp2_with fail
  · exact bodyPost_ret (v := aggV n x.n x.s (.slice la x.l.length lc)) (by simp [results, Tryz.results6, go_sem]) rfl ⟨⟨_, rfl, (HL.out.2.1.below (n := w.heap.size) (Kit.below_alloc2 w _ _) HL.out.1).mono (by have := HL.out.1; simp; omega), keeps_flat HF.out ((HL.out.2.1.below (n := w.heap.size) (Kit.below_alloc2 w _ _) HL.out.1).mono (by have := HL.out.1; simp; omega)) (fun j hj => .inl hj)⟩, Kit.below_alloc2 w _ _⟩
  · exact bodyPost_ret (v := aggV x.k n x.s (.slice la x.l.length lc)) (by simp [results, Tryz.results6, go_sem]) rfl ⟨⟨_, rfl, (HL.out.2.1.below (n := w.heap.size) (Kit.below_alloc2 w _ _) HL.out.1).mono (by have := HL.out.1; simp; omega), keeps_flat HF.out ((HL.out.2.1.below (n := w.heap.size) (Kit.below_alloc2 w _ _) HL.out.1).mono (by have := HL.out.1; simp; omega)) (fun j hj => .inl hj)⟩, Kit.below_alloc2 w _ _⟩
  · exact bodyPost_ret (v := aggV x.k x.n s (.slice la x.l.length lc)) (by simp [results, Tryz.results6, go_sem]) rfl ⟨⟨_, rfl, (HL.out.2.1.below (n := w.heap.size) (Kit.below_alloc2 w _ _) HL.out.1).mono (by have := HL.out.1; simp; omega), keeps_flat HF.out ((HL.out.2.1.below (n := w.heap.size) (Kit.below_alloc2 w _ _) HL.out.1).mono (by have := HL.out.1; simp; omega)) (fun j hj => .inl hj)⟩, Kit.below_alloc2 w _ _⟩
  · refine bodyPost_ret (v := aggV x.k x.n x.s (.slice (some ⟨w.heap.size + 1 + 1, 0, none⟩) 1 1)) (by simp [results, Tryz.results6, go_sem]) rfl ⟨⟨_, rfl, ?_, ?_⟩, (Kit.below_alloc2 w _ _).alloc (by simp; omega) _⟩
    · refine .inr ⟨w.heap.size + 1 + 1, 0, 1, by simp, List.cons_ne_nil _ _, rfl, Nat.le_refl 1, by decide, repC_cons.2 ⟨⟨_, ((HL.out.2.2.below (n := w.heap.size) ((Kit.below_alloc2 w _ _).alloc (by simp; omega) _) HL.out.1).mono (by have := HL.out.1; simp; omega)), fun j u hu => ?_⟩, repC_nil⟩⟩
      have hc := Kit.cell_new ((w.alloc (.cells #[.int .i64 x.k, .int .i64 x.n, .string x.s, .slice (some ⟨w.heap.size + 1 + 1, 0, none⟩) 1 1] 30)).alloc (.cells #[.int .i64 x.k, .int .i64 x.n, .string x.s, .slice (some ⟨w.heap.size + 1 + 1, 0, none⟩) 1 1] 30)) #[.int .i64 x.k, .int .i64 x.n, .string x.s, .slice la x.l.length lc] 30 (0 + j) (v := u) (by rw [Nat.zero_add, ← Array.getElem?_toList]; exact hu)
      simp only [World.size_alloc] at hc
      exact hc
    · intro b W' hb hi hm
      have hz := hm.size
      simp only [World.size_alloc] at hz
      have h3 : RepL (((w.alloc (.cells #[.int .i64 x.k, .int .i64 x.n, .string x.s, .slice (some ⟨w.heap.size + 1 + 1, 0, none⟩) 1 1] 30)).alloc (.cells #[.int .i64 x.k, .int .i64 x.n, .string x.s, .slice (some ⟨w.heap.size + 1 + 1, 0, none⟩) 1 1] 30)).alloc (.cells #[.int .i64 x.k, .int .i64 x.n, .string x.s, .slice la x.l.length lc] 30)).heap.size (((w.alloc (.cells #[.int .i64 x.k, .int .i64 x.n, .string x.s, .slice (some ⟨w.heap.size + 1 + 1, 0, none⟩) 1 1] 30)).alloc (.cells #[.int .i64 x.k, .int .i64 x.n, .string x.s, .slice (some ⟨w.heap.size + 1 + 1, 0, none⟩) 1 1] 30)).alloc (.cells #[.int .i64 x.k, .int .i64 x.n, .string x.s, .slice la x.l.length lc] 30)) x.l (.slice la x.l.length lc) := (HL.out.2.1.below (n := w.heap.size) ((Kit.below_alloc2 w _ _).alloc (by simp; omega) _) HL.out.1).mono (by have := HL.out.1; simp; omega)
      have hcs : World.rangeAt (((w.alloc (.cells #[.int .i64 x.k, .int .i64 x.n, .string x.s, .slice (some ⟨w.heap.size + 1 + 1, 0, none⟩) 1 1] 30)).alloc (.cells #[.int .i64 x.k, .int .i64 x.n, .string x.s, .slice (some ⟨w.heap.size + 1 + 1, 0, none⟩) 1 1] 30)).alloc (.cells #[.int .i64 x.k, .int .i64 x.n, .string x.s, .slice la x.l.length lc] 30)) (w.heap.size + 1 + 1) 0 (cellsV x.k x.n x.s (.slice la x.l.length lc)) := fun j u hu => by
        have hc := Kit.cell_new ((w.alloc (.cells #[.int .i64 x.k, .int .i64 x.n, .string x.s, .slice (some ⟨w.heap.size + 1 + 1, 0, none⟩) 1 1] 30)).alloc (.cells #[.int .i64 x.k, .int .i64 x.n, .string x.s, .slice (some ⟨w.heap.size + 1 + 1, 0, none⟩) 1 1] 30)) #[.int .i64 x.k, .int .i64 x.n, .string x.s, .slice la x.l.length lc] 30 (0 + j) (v := u) (by rw [Nat.zero_add, ← Array.getElem?_toList]; exact hu)
        simp only [World.size_alloc] at hc
        exact hc
      exact .inr ⟨w.heap.size + 1 + 1, 0, 1, by omega, List.cons_ne_nil _ _, rfl, Nat.le_refl 1, by decide, repC_cons.2 ⟨⟨_, rep_in (keeps_flat HF.out h3 (fun j hj => .inl hj) b W' hb hi hm), rangeAt_heap hcs (hm.block (w.heap.size + 1 + 1) (by simp) (by omega))⟩, repC_nil⟩⟩

theorem keeps_and {w w' : World} {io : Option Nat} {l : List Vl} {lv : Value} (hf : ∀ y ∈ l, y.isFlat) (ho : ∀ j, lv.ownBlock = some j → io = some j ∨ w.heap.size ≤ j) (h : RepL w'.heap.size w' l lv) : RepL w'.heap.size w' l lv ∧ Keeps w io l lv w' := ⟨h, keeps_flat hf h ho⟩
/-- What lies in memory while a list is copied: the box, the result's place, the new row, behind b. -/
structure OddJ (w : World) (b : Nat) (k n : Int) (s : ByteArray) (lv : Value) (v : Value) (m : Nat) (xs : List Value) (W : World) : Prop where
  box : BoxF W w.heap.size (.int .i64 k) (.int .i64 n) (.string s) lv
  res : BoxF W (w.heap.size + 1) (.int .i64 0) (.int .i64 0) (.string ⟨#[]⟩) (.slice none 0 0)
  row : W.ownsRow b 30 4 v m xs
  below : Below w.heap.size w W
  lo : w.heap.size + 2 ≤ b
  sz : b ≤ W.heap.size
theorem OddJ.begins (w : World) (k n : Int) (s : ByteArray) (lv : Value) : OddJ w (w.heap.size + 2) k n s lv (.slice none 0 0) 0 [] ((w.alloc (.cells #[.int .i64 k, .int .i64 n, .string s, lv] 30)).alloc (.cells #[.int .i64 0, .int .i64 0, .string ⟨#[]⟩, .slice none 0 0] 30)) := by
  have h := boxF_new (w.alloc (.cells #[.int .i64 k, .int .i64 n, .string s, lv] 30)) (.int .i64 0) (.int .i64 0) (.string ⟨#[]⟩) (.slice none 0 0) 30
  rw [World.size_alloc] at h
  exact ⟨(boxF_new w _ _ _ _ _).alloc _, h, World.ownsRow_nil _ _ _ _, Kit.below_alloc2 _ _ _, Nat.le_refl _, by simp⟩
theorem OddJ.grows {w : World} {b : Nat} {k n : Int} {s : ByteArray} {lv v v' : Value} {m m' : Nat} {xs xs' : List Value} {W W' : World} (h : OddJ w b k n s lv v m xs W) (hg : W.grownBy W' v.ownBlock) (hown : W'.ownsRow b 30 4 v' m' xs') : OddJ w b k n s lv v' m' xs' W' := by
  have hm : Moved (fun j => b ≤ j) W W' := (Kit.Moved.of_grownBy hg).mono fun j _ hj => (h.row.lt j hj).1
  have hz := hm.size
  have hs := h.sz
  have hl := h.lo
  exact ⟨h.box.moved hm (by omega), h.res.moved hm (by omega), hown, h.below.trans (hm.below (fun j hj => by omega) (by omega)), h.lo, by omega⟩
theorem OddJ.block {w : World} {b : Nat} {k n : Int} {s : ByteArray} {lv v : Value} {m : Nat} {xs : List Value} {W : World} (h : OddJ w b k n s lv v m xs W) (o : Obj) : OddJ w b k n s lv v m xs (W.alloc o) := by
  have hs := h.sz
  have hl := h.lo
  exact ⟨h.box.alloc _, h.res.alloc _, h.row.alloc _, h.below.alloc (by omega) _, h.lo, by simp; omega⟩
theorem oddEnd (w W : World) (u v0 v1 v2 v3 : Value) : Moved (fun j => j = w.heap.size ∨ j = w.heap.size + 1) W (((((W.setCell ⟨w.heap.size, 3, none⟩ u).setCell ⟨w.heap.size + 1, 0, none⟩ v0).setCell ⟨w.heap.size + 1, 1, none⟩ v1).setCell ⟨w.heap.size + 1, 2, none⟩ v2).setCell ⟨w.heap.size + 1, 3, none⟩ v3) :=
  (Kit.Moved.setCell (fun j => j = w.heap.size ∨ j = w.heap.size + 1) W ⟨w.heap.size, 3, none⟩ u (.inl rfl)).trans (end4b (w.heap.size + 1) _ v0 v1 v2 v3) (fun _ _ hj => .inr hj)
set_option maxRecDepth 100000 in
set_option maxHeartbeats 4000000 in
theorem odd_more (x : Vl) (hf : ∀ y ∈ x.l, y.isFlat) (h12 : x.l.length ≤ 1000) (c n : Int) (s : ByteArray) (c1 : -9223372036854775808 ≤ c) (c2 : c ≤ 9223372036854775807) (n1 : -9223372036854775808 ≤ n) (n2 : n ≤ 9223372036854775807) (B : Nat) (w : World) (lv : Value) (hB : B ≤ w.heap.size) (hl : RepL B w x.l lv) (h3 : pickN c 6 = 3) :
    Calls Tryz.prog 6 #[aggV x.k x.n x.s lv, .int .i64 c, .int .i64 n, .string s] w (OddPost w lv.ownBlock (oddV x 3 n s)) := by
  obtain ⟨la, lc, rfl, -⟩ := hl.len
  have hr := rep_in hl
  have hP := pick_any c c1 c2 6 (by decide) (by decide)
  have hP7 := pick_any n n1 n2 7 (by decide) (by decide)
  rw [h3] at hP
  have HP := Lib.hid (And.intro hP hP7)
  have J0 := Lib.hid (OddJ.begins w x.k x.n x.s (.slice la x.l.length lc))
  have HL := Lib.hid (And.intro hB (And.intro hl hf))
  have hv : oddV x 3 n s = .mk x.k x.n x.s (x.l ++ [flat (pickN n 7) n (bs [])]) := rfl
  rw [hv]
  generalize pickN n 7 = M at *
  obtain ⟨i0, hi0, hz0, hz1, hz2⟩ := info_parts vInfo3
  clear hP hP7 hr hl hB c1 c2 h3 hf hv
  go_enter Tryz.func6, Tryz.ntmps6
  go_wp2_with fail
  refine (HP.out.1 _).mono ?_; rintro e w' ⟨rfl, rfl⟩
  go_wp2_with (at_builtin; refine wpList_append_flat rfl _ _ rfl (w.heap.size + 2) i0 hi0 hz0 hz1 hz2 (.slice none 0 0) 0 [] rfl J0.out.row rfl HL.out.2.2 (HL.out.2.1.below (n := w.heap.size) J0.out.below HL.out.1) (by omega) J0.out.sz ?_; intro v1 W1 hown1 hg1 _; have J1 := Lib.hid (J0.out.grows hg1 hown1); clear hown1 hg1 J0)
  refine (HP.out.2 _).mono ?_; rintro e w' ⟨rfl, rfl⟩
  go_wp2_with (at_builtin; refine wpList_append_own_at _ rfl _ _ 28 rfl (w.heap.size + 2) 30 i0 (.agg zero4.toArray) 4 56 Tryz.underlying28 hi0 hz0 hz1 hz2 rfl (by decide) v1 _ _ rfl (J1.out.block (.cells #[.int .i64 M, .int .i64 n, .string ⟨#[]⟩, .slice none 0 0] 30)).row ⟨W1.heap.size, 0, none⟩ 1 1 (cellsF (flat M n (bs []))) rfl rfl (fun j u hu => by rw [Addr.add_mid]; exact Kit.cell_new W1 _ _ (0 + j) (by rw [Nat.zero_add, ← Array.getElem?_toList]; exact hu)) (cellsF_one _) (by unfold maxLen; omega) (by omega) (J1.out.block (.cells #[.int .i64 M, .int .i64 n, .string ⟨#[]⟩, .slice none 0 0] 30)).sz ?_; intro v2 W2 hown2 hg2 _ _; have J2 := Lib.hid ((J1.out.block (.cells #[.int .i64 M, .int .i64 n, .string ⟨#[]⟩, .slice none 0 0] 30)).grows hg2 hown2); obtain ⟨g, cap, rfl, -, -⟩ := Kit.ownsRow_succ' hown2; clear hown2 hg2 J1; obtain ⟨⟨b0, b1, b2, b3⟩, bf⟩ := J2.out.box; obtain ⟨⟨y0, y1, y2, y3⟩, yf⟩ := J2.out.res; have bf3 := bf 3; have yf0 := yf 0; have yf1 := yf 1; have yf2 := yf 2; have yf3 := yf 3; clear bf yf)
  have hrow := J2.out.row
  simp only [Nat.zero_add, List.nil_append] at hrow
  have hm := oddEnd w W2 (.slice (some ⟨g, 0, none⟩) (x.l.length + 1) cap) (.int .i64 x.k) (.int .i64 x.n) (.string x.s) (.slice (some ⟨g, 0, none⟩) (x.l.length + 1) cap)
  have hfl : ∀ y ∈ x.l ++ [flat (M : Int) n (bs [])], y.isFlat := fun y hy => by
    rcases List.mem_append.1 hy with h | h
    · exact HL.out.2.2 y h
    · simp only [List.mem_cons, List.not_mem_nil, or_false] at h
      subst h; rfl
  refine bodyPost_ret (v := aggV x.k x.n x.s (.slice (some ⟨g, 0, none⟩) (x.l.length + 1) cap)) (by simp [results, Tryz.results6, go_sem, y0, y1, y2, y3]) rfl ⟨⟨_, rfl, keeps_and hfl (fun j hj => .inr (by have := (hrow.lt j hj).1; omega)) ?_⟩, J2.out.below.trans (hm.below (fun j hj => by omega) (by have := J2.out.sz; omega))⟩
  refine repL_own (e := 30) (base := w.heap.size + 2) (Kit.ownsRow_kept (xs := (x.l ++ [flat (M : Int) n (bs [])]).flatMap cellsF) (by simpa using hrow) fun j hj => ?_) (by simp [Vl.l]) hfl (fun h => by omega)
  have hj2 := hrow.lt j hj
  exact hm.block j hj2.2 (by omega)

/-- What a loop appends. -/
def numL (k : Nat) : List Vl := (List.range k).map fun (i : Nat) => flat 1 (i : Int) (bs [])
theorem numL_succ (k : Nat) : numL (k + 1) = numL k ++ [flat 1 (k : Int) (bs [])] := by unfold numL; rw [List.range_succ, List.map_append]; rfl
/-- What stands in the round of a loop. -/
structure OddI (w : World) (io : Option Nat) (x : Vl) (k : Nat) (lv : Value) (W : World) : Prop where
  box : BoxF W w.heap.size (.int .i64 x.k) (.int .i64 x.n) (.string x.s) lv
  res : BoxF W (w.heap.size + 1) (.int .i64 0) (.int .i64 0) (.string ⟨#[]⟩) (.slice none 0 0)
  rep : RepL W.heap.size W (x.l ++ numL k) lv
  own : ∀ j, lv.ownBlock = some j → (io = some j ∧ j < w.heap.size) ∨ w.heap.size + 2 ≤ j
  below : Below w.heap.size w W
  sz : w.heap.size + 2 ≤ W.heap.size
theorem OddI.j {w : World} {io : Option Nat} {x : Vl} {k : Nat} {lv : Value} {W : World} (h : OddI w io x k lv W) : OddJ w W.heap.size x.k x.n x.s lv (.slice none 0 0) 0 [] W :=
  ⟨h.box, h.res, World.ownsRow_nil _ _ _ _, h.below, h.sz, Nat.le_refl _⟩
theorem numL_flat (x : Vl) (hf : ∀ y ∈ x.l, y.isFlat) (k : Nat) : ∀ y ∈ x.l ++ numL k, y.isFlat := by
  intro y hy
  rcases List.mem_append.1 hy with h | h
  · exact hf y h
  · obtain ⟨i, _, rfl⟩ := List.mem_map.1 h
    rfl

theorem OddJ.done {w : World} {io : Option Nat} {b : Nat} {x : Vl} {lv : Value} {g m cap k : Nat} {xs : List Value} {W : World} (h : OddJ w b x.k x.n x.s lv (.slice (some ⟨g, 0, none⟩) m cap) m xs W) (hxs : xs = (x.l ++ numL k).flatMap cellsF) (hm : m = (x.l ++ numL k).length) (hf : ∀ y ∈ x.l ++ numL k, y.isFlat) (h0 : m ≠ 0) :
    OddI w io x k (.slice (some ⟨g, 0, none⟩) m cap) (W.setCell ⟨w.heap.size, 3, none⟩ (.slice (some ⟨g, 0, none⟩) m cap)) := by
  have hl := h.lo
  have hs := h.sz
  have hms : Moved (fun j => j = w.heap.size) W (W.setCell ⟨w.heap.size, 3, none⟩ (.slice (some ⟨g, 0, none⟩) m cap)) := Kit.Moved.setCell _ _ _ _ rfl
  have hz := hms.size
  subst hxs
  refine ⟨h.box.set3 _, h.res.moved hms (by omega), ?_, fun j hj => .inr (by have := (h.row.lt j hj).1; omega), h.below.trans (hms.below (fun j hj => by omega) (by omega)), by omega⟩
  refine repL_own (e := 30) (base := b) (Kit.ownsRow_kept h.row fun j hj => hms.block j (h.row.lt j hj).2 (by have := (h.row.lt j hj).1; omega)) hm hf (fun h1 => absurd h1 h0)

set_option maxRecDepth 100000 in
set_option maxHeartbeats 4000000 in
theorem odd_loop (x : Vl) (hf : ∀ y ∈ x.l, y.isFlat) (h12 : x.l.length ≤ 1000) (c n : Int) (s : ByteArray) (c1 : -9223372036854775808 ≤ c) (c2 : c ≤ 9223372036854775807) (n1 : -9223372036854775808 ≤ n) (n2 : n ≤ 9223372036854775807) (B : Nat) (w : World) (lv : Value) (hB : B ≤ w.heap.size) (hl : RepL B w x.l lv) (h3 : pickN c 6 = 4) :
    Calls Tryz.prog 6 #[aggV x.k x.n x.s lv, .int .i64 c, .int .i64 n, .string s] w (OddPost w lv.ownBlock (oddV x 4 n s)) := by
  obtain ⟨la, lc, rfl, -⟩ := hl.len
  have hr := rep_in hl
  have hP := pick_any c c1 c2 6 (by decide) (by decide)
  have hP7 := pick_any n n1 n2 14 (by decide) (by decide)
  have h14 := pickN_lt n (n := 14) (by decide)
  rw [h3] at hP
  have hI : OddI w (Value.slice la x.l.length lc).ownBlock x 0 (.slice la x.l.length lc) ((w.alloc (.cells #[.int .i64 x.k, .int .i64 x.n, .string x.s, .slice la x.l.length lc] 30)).alloc (.cells #[.int .i64 0, .int .i64 0, .string ⟨#[]⟩, .slice none 0 0] 30)) := by
    have J := OddJ.begins w x.k x.n x.s (.slice la x.l.length lc)
    refine ⟨J.box, J.res, ?_, fun j hj => .inl ⟨hj, by have := hl.lt j hj; omega⟩, J.below, by simp⟩
    rw [show x.l ++ numL 0 = x.l by simp [numL]]
    exact (hl.below (n := w.heap.size) J.below hB).mono (by simp; omega)
  have hv : oddV x 4 n s = .mk x.k x.n x.s (x.l ++ numL (pickN n 14)) := rfl
  rw [hv]
  generalize pickN n 14 = M at *
  have HP := Lib.hid (And.intro hP hP7)
  have I0 := Lib.hid hI
  have HL := Lib.hid hf
  obtain ⟨i0, hi0, hz0, hz1, hz2⟩ := info_parts vInfo3
  clear hP hP7 hr hl hB c1 c2 h3 hf hv hI
  go_enter Tryz.func6, Tryz.ntmps6
  go_wp2_with fail
  refine (HP.out.1 _).mono ?_; rintro e w' ⟨rfl, rfl⟩
  go_wp2_with fail
  go_loopw [9] (fun i wr => ∃ (k : Nat) (lv : Value), k ≤ M ∧ i = .int .i64 k ∧ OddI w (Value.slice la x.l.length lc).ownBlock x k lv wr) (fun i _ => 14 - (intOf i).toNat)
  case atStart => exact ⟨0, _, by omega, rfl, I0.out⟩
  case round =>
    obtain ⟨k, lv, hkM, rfl, hI⟩ := hrel
    obtain ⟨a1, c1, rfl, -⟩ := hI.rep.len
    obtain ⟨m, hmm⟩ : ∃ m, (x.l ++ numL k).length = m := ⟨_, rfl⟩
    rw [hmm] at hI
    have HM := Lib.hid hmm
    obtain ⟨⟨b0, b1, b2, b3⟩, -⟩ := hI.box
    have I1 := Lib.hid hI
    clear hmm
    clear hI I0
    by_cases hk : k < M
    · have i1 : (k : Int) < (M : Int) := by omega
      have hll : 0 + (x.l ++ numL k).length ≤ 1000000000000 := by simp [numL]; omega
      have HN := Lib.hid hll
      clear hll
      have HK := Lib.hid (And.intro hk (numL_flat x HL.out k))
      go_wp2_with fail
      refine (HP.out.2 _).mono ?_; rintro e w' ⟨rfl, rfl⟩
      go_wp2_with (first | (at_builtin; refine wpList_append_flat rfl _ _ rfl wr.heap.size i0 hi0 hz0 hz1 hz2 (.slice none 0 0) 0 [] rfl I1.out.j.row rfl HK.out.2 I1.out.rep HN.out (Nat.le_refl _) ?_; intro v1 W1 hown1 hg1 _; have J1 := Lib.hid (I1.out.j.grows hg1 hown1); clear hown1 hg1) | (at_builtin; refine wpList_append_own_at _ rfl _ _ 28 rfl wr.heap.size 30 i0 (.agg zero4.toArray) 4 56 Tryz.underlying28 hi0 hz0 hz1 hz2 rfl (by decide) v1 _ _ rfl (J1.out.block (.cells #[.int .i64 1, .int .i64 k, .string ⟨#[]⟩, .slice none 0 0] 30)).row ⟨W1.heap.size, 0, none⟩ 1 1 (cellsF (flat 1 k (bs []))) rfl rfl (fun j u hu => by rw [Addr.add_mid]; exact Kit.cell_new W1 _ _ (0 + j) (by rw [Nat.zero_add, ← Array.getElem?_toList]; exact hu)) (cellsF_one _) (by have := HN.out; unfold maxLen; omega) (by have := HN.out; omega) (J1.out.block (.cells #[.int .i64 1, .int .i64 k, .string ⟨#[]⟩, .slice none 0 0] 30)).sz ?_; intro v2 W2 hown2 hg2 _ _; have J2 := Lib.hid ((J1.out.block (.cells #[.int .i64 1, .int .i64 k, .string ⟨#[]⟩, .slice none 0 0] 30)).grows hg2 hown2); obtain ⟨g, cap, rfl, -, -⟩ := Kit.ownsRow_succ' hown2; clear hown2 hg2 J1; obtain ⟨⟨d0, d1, d2, d3⟩, bf⟩ := J2.out.box; have bf3 := bf 3; clear bf))
      have J3 := J2.out
      simp only [Nat.zero_add, List.length_append, List.nil_append] at J3
      refine ⟨⟨k + 1, _, by have := HK.out.1; omega, by push_cast; rfl, J3.done (by rw [numL_succ]; simp [List.flatMap_append]) (by rw [numL_succ]; simp; omega) (numL_flat x HL.out (k + 1)) (by omega)⟩, ?_⟩
      simp [intOf]
      have := HK.out.1
      omega
    · have hkm : k = M := by omega
      subst hkm
      clear hk
      obtain ⟨⟨y0, y1, y2, y3⟩, yf⟩ := I1.out.res
      have yf0 := yf 0
      have yf1 := yf 1
      have yf2 := yf 2
      have yf3 := yf 3
      clear yf
      go_wp2_with fail
      refine (HP.out.2 _).mono ?_; rintro e w' ⟨rfl, rfl⟩
      go_wp2_with fail
      have hm := end4b (w.heap.size + 1) wr (.int .i64 x.k) (.int .i64 x.n) (.string x.s) (.slice a1 m c1)
      refine bodyPost_ret (v := aggV x.k x.n x.s (.slice a1 m c1)) (by simp [results, Tryz.results6, go_sem, y0, y1, y2, y3]) rfl ⟨⟨_, rfl, keeps_and (numL_flat x HL.out k) (fun j hj => (I1.out.own j hj).elim (fun h => .inl h.1) (fun h => .inr (by omega))) ?_⟩, I1.out.below.trans (hm.below (fun j hj => by omega) (by have := I1.out.sz; omega))⟩
      refine I1.out.rep.keep1 (numL_flat x HL.out k) (fun j hj => hm.block j (I1.out.rep.lt j hj) (by have := I1.out.own j hj; omega)) hm.size

theorem odd_any (x : Vl) (hf : ∀ y ∈ x.l, y.isFlat) (h12 : x.l.length ≤ 1000) (c n : Int) (s : ByteArray) (c1 : -9223372036854775808 ≤ c) (c2 : c ≤ 9223372036854775807) (n1 : -9223372036854775808 ≤ n) (n2 : n ≤ 9223372036854775807) (B : Nat) (w : World) (lv : Value) (hB : B ≤ w.heap.size) (hl : RepL B w x.l lv) :
    Calls Tryz.prog 6 #[aggV x.k x.n x.s lv, .int .i64 c, .int .i64 n, .string s] w (OddPost w lv.ownBlock (oddV x (pickN c 6) n s)) := by
  by_cases h3 : pickN c 6 = 3
  · rw [h3]; exact odd_more x hf h12 c n s c1 c2 n1 n2 B w lv hB hl h3
  · by_cases h4 : pickN c 6 = 4
    · rw [h4]; exact odd_loop x hf h12 c n s c1 c2 n1 n2 B w lv hB hl h4
    · exact odd_plain x hf c n s c1 c2 B w lv hB hl h3 h4
end Go.Proofs.YtbmhlpojgiminaaGreatDoor.Val
/- Layer 3's laws: the type of raw numbers. -/
namespace Go.Proofs.YtbmhlpojgiminaaGreatDoor.Val
open Go.RowKit
open Kit (ret_int ret_bool Moved)

attribute [local go_sem] Oper.semAt_some
/-- The type of raw numbers. -/
def typeK (a : Int) : Int := if pickN a 6 < 4 then 1 + (pickN a 6 : Int) else 5
def typeO (a b : Int) : Int := if pickN a 6 < 4 then 0 else 1 + (pickN b 4 : Int)
theorem type_right (a b : Int) : rightTy (typeK a) (typeO a b) = true := by
  have h6 := pickN_lt a (n := 6) (by decide)
  have h4 := pickN_lt b (n := 4) (by decide)
  unfold typeK typeO rightTy inK
  split
  · rw [if_neg (by omega)]; simp; omega
  · rw [if_pos rfl]; simp; omega
theorem box2_put {W : World} {b : Nat} {u0 u1 : Value} (h0 : W.cell? ⟨b, 0, none⟩ = some u0) (h1 : W.cell? ⟨b, 1, none⟩ = some u1) (v0 v1 : Value) :
    ((W.setCell ⟨b, 0, none⟩ v0).setCell ⟨b, 1, none⟩ v1).cell? ⟨b, 0, none⟩ = some v0 ∧ ((W.setCell ⟨b, 0, none⟩ v0).setCell ⟨b, 1, none⟩ v1).cell? ⟨b, 1, none⟩ = some v1 := by
  constructor <;> simp [go_sem, h0, h1]

set_option maxRecDepth 100000 in
set_option maxHeartbeats 1000000 in
theorem valType_any (a b : Int) (a1 : -9223372036854775808 ≤ a) (a2 : a ≤ 9223372036854775807) (b1 : -9223372036854775808 ≤ b) (b2 : b ≤ 9223372036854775807) (w : World) :
    Calls Tryz.prog 22 #[.int .i64 a, .int .i64 b] w fun e w' => e = .returned (.agg #[.int .i64 (typeK a), .int .i64 (typeO a b)]) ∧ Below w.heap.size w w' := by
  have hPa := pick_any a a1 a2 6 (by decide) (by decide) (w.alloc (.cells #[.int .i64 0, .int .i64 0] 26))
  have hPb := pick_any b b1 b2 4 (by decide) (by decide) (w.alloc (.cells #[.int .i64 0, .int .i64 0] 26))
  have h6 := pickN_lt a (n := 6) (by decide)
  have h4 := pickN_lt b (n := 4) (by decide)
  have B0 := Kit.below_alloc w (.cells #[.int .i64 0, .int .i64 0] 26)
  have y0 := Kit.cell_new w #[.int .i64 0, .int .i64 0] 26 0 rfl
  have y1 := Kit.cell_new w #[.int .i64 0, .int .i64 0] 26 1 rfl
  have f0 := Kit.frozen_new w #[.int .i64 0, .int .i64 0] 26 0
  have f1 := Kit.frozen_new w #[.int .i64 0, .int .i64 0] 26 1
  unfold typeK typeO
  generalize pickN a 6 = K at *
  generalize pickN b 4 = O at *
  have hw1 : IntKind.i64.wrap (1 + (K : Int)) = 1 + (K : Int) := by rw [IntKind.wrap_i64]; omega
  have hw2 : IntKind.i64.wrap (1 + (O : Int)) = 1 + (O : Int) := by rw [IntKind.wrap_i64]; omega
  have hz : w.heap.size < (w.alloc (.cells #[.int .i64 0, .int .i64 0] 26)).heap.size := by simp
  have HP := Lib.hid (And.intro hPa hPb)
  have HB := Lib.hid (And.intro B0 hz)
  clear hPa hPb B0 hz
  have hend : ∀ (v0 v1 : Value), Below w.heap.size w (((w.alloc (.cells #[.int .i64 0, .int .i64 0] 26)).setCell ⟨w.heap.size, 0, none⟩ v0).setCell ⟨w.heap.size, 1, none⟩ v1) := fun v0 v1 =>
    HB.out.1.trans (((Kit.Moved.setCell (fun j => j = w.heap.size) _ ⟨w.heap.size, 0, none⟩ v0 rfl).trans (Kit.Moved.setCell (fun j => j = w.heap.size) _ ⟨w.heap.size, 1, none⟩ v1 rfl) (fun _ _ h => h)).below (fun j hj => by omega) (Nat.le_of_lt HB.out.2))
  have HEnd := Lib.hid hend
  clear hend
  by_cases hk : K < 4
  · rw [if_pos hk, if_pos hk]
    have hk2 : (1 + (K : Int)) < 5 := by omega
    go_enter Tryz.func22, Tryz.ntmps22
    go_upto_region 1 with fail
    generalize w.alloc (.cells #[.int .i64 0, .int .i64 0] 26) = W0 at *
    go_wp2_with fail
    refine HP.out.1.mono ?_; rintro e w1 ⟨rfl, rfl⟩
    go_wp2
    exact bodyPost_ret (v := .agg #[.int .i64 (1 + (K : Int)), .int .i64 0]) (by simp [results, Tryz.results22, go_sem, y0, y1]) rfl ⟨rfl, HEnd.out _ _⟩
  · rw [if_neg hk, if_neg hk]
    have hk2 : ¬ (1 + (K : Int)) < 5 := by omega
    go_enter Tryz.func22, Tryz.ntmps22
    go_upto_region 1 with fail
    generalize w.alloc (.cells #[.int .i64 0, .int .i64 0] 26) = W0 at *
    go_wp2_with fail
    refine HP.out.1.mono ?_; rintro e w1 ⟨rfl, rfl⟩
    go_wp2_with fail
    refine HP.out.2.mono ?_; rintro e w1 ⟨rfl, rfl⟩
    go_wp2
    exact bodyPost_ret (v := .agg #[.int .i64 5, .int .i64 (1 + (O : Int))]) (by simp [results, Tryz.results22, go_sem, y0, y1]) rfl ⟨rfl, HEnd.out _ _⟩

end Go.Proofs.YtbmhlpojgiminaaGreatDoor.Val
