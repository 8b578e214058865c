/- Layer 3: reading a list's bytes. -/
import Derived.Test.YtbmhlpojgiminaaGreatDoorValRd3
import Derived.Test.YtbmhlpojgiminaaGreatDoorKit8
import Derived.Deep.RegionHeld3
import Derived.Deep.RegionHeld
namespace Go.Proofs.YtbmhlpojgiminaaGreatDoor.Val
open Go.RowKit
open Kit (ret_int ret_bool Moved)

/-- Values that are no lists, read one behind the other. -/
def decL (s : ByteArray) : Nat → Int × Int → List Vl × Int × Int
  | 0, st => ([], st)
  | k + 1, st => ((decL s k st).1 ++ [(decF s 4 (decL s k st).2).1], (decF s 4 (decL s k st).2).2)
theorem decF_flat (s : ByteArray) (last : Int) (st : Int × Int) : (decF s last st).1.isFlat := by
  unfold decF Vl.isFlat
  split
  · rfl
  · split <;> rfl
theorem decL_flat (s : ByteArray) : ∀ (k : Nat) (st : Int × Int), ∀ x ∈ (decL s k st).1, x.isFlat
  | 0, _, x, h => by cases h
  | k + 1, st, x, h => by
    rw [decL] at h
    rcases List.mem_append.1 h with h | h
    · exact decL_flat s k st x h
    · rw [List.mem_singleton.1 h]; exact decF_flat _ _ _
theorem decL_len (s : ByteArray) : ∀ (k : Nat) (st : Int × Int), (decL s k st).1.length = k
  | 0, _ => rfl
  | k + 1, st => by rw [decL]; simp [decL_len s k st]
theorem rdI_le {s : ByteArray} {last : Int} {st : Int × Int} (h : 0 ≤ last) : 0 ≤ (rdI s (upTo last) st).1 ∧ (rdI s (upTo last) st).1 ≤ last := by
  unfold rdI
  split
  · exact ⟨by omega, h⟩
  · cases Wire.readN (Wire.bytesAt s st.1) with
    | none => exact ⟨by simp, h⟩
    | some r =>
      simp only
      split
      · rename_i hp
        unfold upTo at hp
        simp only [Bool.and_eq_true, decide_eq_true_eq] at hp
        exact hp
      · exact ⟨by simp, h⟩
theorem rdI_count {s : ByteArray} {st : Int × Int} : 0 ≤ (rdI s rightC st).1 ∧ (rdI s rightC st).1 ≤ 12 := by
  unfold rdI
  split
  · simp
  · cases Wire.readN (Wire.bytesAt s st.1) with
    | none => simp
    | some r =>
      simp only
      split
      · rename_i hp
        unfold rightC at hp
        simp only [Bool.and_eq_true, decide_eq_true_eq] at hp
        exact hp
      · simp

abbrev rf0 (be s0 ba : Nat) : Value := .func (.func 85) #[] #[.pointer (some ⟨be, 0, none⟩), .pointer (some ⟨s0, 0, none⟩), .pointer (some ⟨ba, 0, none⟩)]
abbrev rf1 (be s0 ba : Nat) : Value := .func (.func 88) #[] #[.pointer (some ⟨be, 0, none⟩), .pointer (some ⟨s0, 0, none⟩), .pointer (some ⟨ba, 0, none⟩)]
abbrev rf2 (be ba : Nat) : Value := .func (.func 91) #[] #[.pointer (some ⟨ba, 0, none⟩), .pointer (some ⟨be, 0, none⟩)]

/-- What lies in the round of reading a list: the row, the value, what is answered, and the reader. -/
structure LJ (w : World) (be s0 ba X : Nat) (l : List Vl) (k : Nat) (lv : Value) (B0 : Nat) (wr : World) : Prop where
  row : wr.ownsRow B0 30 4 lv k (l.flatMap cellsF)
  nil : k = 0 → lv = .slice none 0 0
  v : BoxF wr X (.int .i64 5) (.int .i64 0) (.string ⟨#[]⟩) lv
  res : BoxF wr (w.heap.size + 2) (.int .i64 0) (.int .i64 0) (.string ⟨#[]⟩) (.slice none 0 0)
  r0 : wr.cell? ⟨w.heap.size, 0, none⟩ = some (rf0 be s0 ba)
  r1 : wr.cell? ⟨w.heap.size, 1, none⟩ = some (rf1 be s0 ba)
  r2 : wr.cell? ⟨w.heap.size, 2, none⟩ = some (rf2 be ba)
  moved : Moved (Own be ba) w wr
  base : B0 ≤ wr.heap.size
  xb : X < B0
  wx : w.heap.size + 2 < X
  eb : be < w.heap.size
  ab : ba < w.heap.size
theorem LJ.step {w : World} {be s0 ba X : Nat} {l : List Vl} {k : Nat} {lv : Value} {B0 : Nat} {wr w' : World} {S : Nat → Prop} (h : LJ w be s0 ba X l k lv B0 wr) (hm : Moved S wr w') (hS : ∀ j, S j → Own be ba j ∨ wr.heap.size ≤ j) : LJ w be s0 ba X l k lv B0 w' := by
  have h1 := h.xb
  have h2 := h.wx
  have h3 := h.eb
  have h4 := h.ab
  have h5 := h.base
  have hs : ∀ j, j < wr.heap.size → be ≠ j → ba ≠ j → ¬ S j := fun j hj n1 n2 hSj => by
    rcases hS j hSj with h | h
    · unfold Own at h; omega
    · omega
  have hz := hm.size
  exact { h with
    row := Kit.ownsRow_kept h.row fun j hj => hm.block j (h.row.lt j hj).2 (hs j (h.row.lt j hj).2 (by have := (h.row.lt j hj).1; omega) (by have := (h.row.lt j hj).1; omega))
    v := h.v.moved hm (hs _ (by omega) (by omega) (by omega))
    res := h.res.moved hm (hs _ (by omega) (by omega) (by omega))
    r0 := cell_moved h.r0 hm (hs _ (by omega) (by omega) (by omega))
    r1 := cell_moved h.r1 hm (hs _ (by omega) (by omega) (by omega))
    r2 := cell_moved h.r2 hm (hs _ (by omega) (by omega) (by omega))
    moved := h.moved.trans hm (fun i hi hSi => by
      rcases hS i hSi with hq | hq
      · exact hq
      · have := h.moved.size; omega)
    base := by omega }
theorem LJ.later {w : World} {be s0 ba X : Nat} {l : List Vl} {k : Nat} {lv : Value} {B0 : Nat} {wr w' : World} (h : LJ w be s0 ba X l k lv B0 wr) (hB : Below wr.heap.size wr w') : LJ w be s0 ba X l k lv B0 w' :=
  h.step (Kit.Moved.of_below hB) fun _ hj => .inr hj
theorem LJ.call {w : World} {be s0 ba X : Nat} {l : List Vl} {k : Nat} {lv : Value} {B0 : Nat} {wr w' : World} (h : LJ w be s0 ba X l k lv B0 wr) (hm : Moved (Own be ba) wr w') : LJ w be s0 ba X l k lv B0 w' :=
  h.step hm fun _ hj => .inl hj

/-- The element that came is set, and the list. -/
def put4 (W : World) (g k : Nat) (x : Vl) : World := (((W.setCell ⟨g, k * 4, none⟩ (.int .i64 x.k)).setCell ⟨g, k * 4 + 1, none⟩ (.int .i64 x.n)).setCell ⟨g, k * 4 + 2, none⟩ (.string x.s)).setCell ⟨g, k * 4 + 3, none⟩ (.slice none 0 0)
theorem put4_moved (W : World) (g k : Nat) (x : Vl) : Moved (fun j => j = g) W (put4 W g k x) :=
  (((Kit.Moved.setCell (fun j => j = g) W _ _ rfl).trans (Kit.Moved.setCell (fun j => j = g) _ ⟨g, k * 4 + 1, none⟩ _ rfl) (fun _ _ h => h)).trans (Kit.Moved.setCell (fun j => j = g) _ ⟨g, k * 4 + 2, none⟩ _ rfl) (fun _ _ h => h)).trans (Kit.Moved.setCell (fun j => j = g) _ ⟨g, k * 4 + 3, none⟩ _ rfl) (fun _ _ h => h)
/-- Both stores, in either order. -/
theorem LJ.ends {w : World} {be s0 ba X : Nat} {l : List Vl} {k : Nat} {lv : Value} {B0 : Nat} {w5 w6 W : World} {g cap : Nat} {x : Vl} (h : LJ w be s0 ba X l k lv B0 w5) (hl : l.length = k) (_hx : x.isFlat) (hg : w5.grownBy w6 lv.ownBlock)
    (hrow : w6.ownsRow B0 30 4 (.slice (some ⟨g, 0, none⟩) (k + 1) cap) (k + 1) (l.flatMap cellsF ++ zero4)) (hgb : B0 ≤ g)
    (hW : W = (put4 w6 g k x).setCell ⟨X, 3, none⟩ (.slice (some ⟨g, 0, none⟩) (k + 1) cap) ∨ W = put4 (w6.setCell ⟨X, 3, none⟩ (.slice (some ⟨g, 0, none⟩) (k + 1) cap)) g k x) :
    LJ w be s0 ba X (l ++ [x]) (k + 1) (.slice (some ⟨g, 0, none⟩) (k + 1) cap) B0 W ∧ Moved (fun j => w.heap.size ≤ j) w5 W := by
  have h1 := h.xb
  have h2 := h.wx
  have h3 := h.eb
  have h4 := h.ab
  have h5 := h.base
  have hs1 := hg.size
  have ho : ∀ j, lv.ownBlock = some j → B0 ≤ j := fun j hj => (h.row.lt j hj).1
  have hm6 : Moved (fun j => B0 ≤ j) w5 w6 := (Kit.Moved.of_grownBy hg).mono fun j _ hj => ho j hj
  have hm7 : Moved (fun j => j = X ∨ B0 ≤ j) w6 W := by
    rcases hW with rfl | rfl
    · exact ((put4_moved w6 g k x).mono (T := fun j => j = X ∨ B0 ≤ j) (fun j _ hj => .inr (by omega))).trans (Kit.Moved.setCell _ _ _ _ (.inl rfl)) (fun _ _ h => h)
    · exact (Kit.Moved.setCell (fun j => j = X ∨ B0 ≤ j) w6 ⟨X, 3, none⟩ _ (.inl rfl)).trans ((put4_moved _ g k x).mono (T := fun j => j = X ∨ B0 ≤ j) (fun j _ hj => .inr (by omega))) (fun _ _ h => h)
  have hm : Moved (fun j => j = X ∨ B0 ≤ j) w5 W := (hm6.mono (T := fun j => j = X ∨ B0 ≤ j) (fun _ _ h => .inr h)).trans hm7 (fun _ _ h => h)
  have hv6 := h.v.moved hm6 (by omega)
  have hlen : (l.flatMap cellsF).length = k * 4 := by rw [cellsFs_len, hl]
  have hfm : (l ++ [x]).flatMap cellsF = l.flatMap cellsF ++ cellsF x := by rw [List.flatMap_append]; simp
  have hmw := hm.size
  have hgX : ¬ g = X := by omega
  refine ⟨{ row := ?_, nil := fun h => by omega, v := ?_, res := h.res.moved hm (by omega), r0 := cell_moved h.r0 hm (by omega), r1 := cell_moved h.r1 hm (by omega), r2 := cell_moved h.r2 hm (by omega), moved := ?_, base := by omega, xb := h.xb, wx := h.wx, eb := h.eb, ab := h.ab }, hm.mono fun j _ hj => by omega⟩
  · rw [hfm]
    rcases hW with rfl | rfl
    · exact Kit.ownsRow_kept (Kit.ownsRow_set4 hrow hlen) fun j hj => by
        cases hj
        exact (Kit.Moved.setCell (fun j => j = X) _ ⟨X, 3, none⟩ _ rfl).block _ (by have := (put4_moved w6 g k x).size; have := (hrow.lt g rfl).2; show g < (put4 w6 g k x).heap.size; omega) hgX
    · exact Kit.ownsRow_set4 (Kit.ownsRow_kept hrow fun j hj => by
        cases hj
        exact (Kit.Moved.setCell (fun j => j = X) _ ⟨X, 3, none⟩ _ rfl).block _ (hrow.lt g rfl).2 hgX) hlen
  · rcases hW with rfl | rfl
    · exact (hv6.moved (put4_moved w6 g k x) (by omega)).set3 _
    · exact (hv6.set3 _).moved (put4_moved _ g k x) (by omega)
  · exact h.moved.trans hm fun j hj hS => by omega

/-- The new place for one more: a block of its own. -/
def Tmp (T be ba : Nat) (W : World) : Prop := T < W.heap.size ∧ ¬ T = be ∧ ¬ T = ba ∧ ∀ (j : Nat) (u : Value), zero4[j]? = some u → W.cell? ((⟨T, 0, none⟩ : Addr).add j) = some u
theorem tmp_new (W : World) (be ba : Nat) (h1 : be < W.heap.size) (h2 : ba < W.heap.size) : Tmp W.heap.size be ba (W.alloc (.cells zero4.toArray 30)) :=
  ⟨by simp, by omega, by omega, fun j u hu => by rw [Addr.add_mid]; exact Kit.cell_new W _ _ (0 + j) (by simpa using hu)⟩
theorem tmp_moved {T be ba : Nat} {W W' : World} (h : Tmp T be ba W) (hm : Moved (Own be ba) W W') : Tmp T be ba W' := by
  have hz := hm.size
  refine ⟨by have := h.1; omega, h.2.1, h.2.2.1, fun j u hu => ?_⟩
  have := h.2.2.2 j u hu
  rw [Addr.add_mid] at this ⊢
  exact cell_moved this hm (by unfold Own; have := h.2.1; have := h.2.2.1; omega)
theorem reader_kept {n be s0 ba : Nat} {w w' : World} {S : Nat → Prop} (h : w.cell? ⟨n, 0, none⟩ = some (rf0 be s0 ba) ∧ w.cell? ⟨n, 1, none⟩ = some (rf1 be s0 ba) ∧ w.cell? ⟨n, 2, none⟩ = some (rf2 be ba)) (hm : Moved S w w') (hS : ¬ S n) :
    w'.cell? ⟨n, 0, none⟩ = some (rf0 be s0 ba) ∧ w'.cell? ⟨n, 1, none⟩ = some (rf1 be s0 ba) ∧ w'.cell? ⟨n, 2, none⟩ = some (rf2 be ba) :=
  ⟨cell_moved h.1 hm hS, cell_moved h.2.1 hm hS, cell_moved h.2.2 hm hS⟩
theorem LJ.appended {w : World} {be s0 ba X : Nat} {l : List Vl} {k : Nat} {lv : Value} {B0 : Nat} {w5 w6 : World} (h : LJ w be s0 ba X l k lv B0 w5) (hg : w5.grownBy w6 lv.ownBlock) :
    BoxF w6 X (.int .i64 5) (.int .i64 0) (.string ⟨#[]⟩) lv ∧ w6.cell? ⟨w.heap.size, 0, none⟩ = some (rf0 be s0 ba) ∧ w6.cell? ⟨w.heap.size, 1, none⟩ = some (rf1 be s0 ba) ∧ w6.cell? ⟨w.heap.size, 2, none⟩ = some (rf2 be ba) := by
  have h1 := h.xb
  have h2 := h.wx
  have hm6 : Moved (fun j => B0 ≤ j) w5 w6 := (Kit.Moved.of_grownBy hg).mono fun j _ hj => (h.row.lt j hj).1
  exact ⟨h.v.moved hm6 (by omega), cell_moved h.r0 hm6 (by omega), cell_moved h.r1 hm6 (by omega), cell_moved h.r2 hm6 (by omega)⟩
theorem row_cells {w : World} {base e g n cap : Nat} {l : List Vl} (hl : l.length = n) (h : w.ownsRow base e 4 (.slice (some ⟨g, 0, none⟩) (n + 1) cap) (n + 1) (l.flatMap cellsF ++ zero4)) :
    w.cell? ⟨g, n * 4, none⟩ = some (.int .i64 0) ∧ w.cell? ⟨g, n * 4 + 1, none⟩ = some (.int .i64 0) ∧ w.cell? ⟨g, n * 4 + 2, none⟩ = some (.string ⟨#[]⟩) ∧ w.cell? ⟨g, n * 4 + 3, none⟩ = some (.slice none 0 0) := by
  have hlen : (l.flatMap cellsF).length = n * 4 := by rw [cellsFs_len, hl]
  have hc : ∀ j u, zero4[j]? = some u → w.cell? ⟨g, n * 4 + j, none⟩ = some u := fun j u hu => by
    have := h.cells (g := g) rfl (n * 4 + j) u (by rw [List.getElem?_append_right (by omega), hlen, Nat.add_sub_cancel_left]; exact hu)
    rw [Addr.add_mid, Nat.zero_add] at this
    exact this
  exact ⟨hc 0 _ rfl, hc 1 _ rfl, hc 2 _ rfl, hc 3 _ rfl⟩

set_option maxRecDepth 100000 in
set_option maxHeartbeats 2000000 in
theorem value_list (ae : Addr) (w0 : World) (be s0 ba : Nat) (s : ByteArray) (st : Int × Int) (w : World) (h : RS ae w0 be s0 ba s st w) (st1 st2 : Int × Int) (n : Nat) (hk : rdI s (upTo 5) st = (5, st1)) (hc : rdI s rightC st1 = ((n : Int), st2)) :
    Calls Tryz.prog 57 #[rdV be s0 ba, .int .i64 5] w fun e w' => (∃ lv, e = .returned (aggV 5 0 (bs []) lv) ∧ RepL w'.heap.size w' (decL s n st2).1 lv ∧ Fresh w.heap.size lv) ∧ RS ae w0 be s0 ba s (decL s n st2).2 w' ∧ Moved (Own be ba) w w' := by
  obtain ⟨W0, hW0⟩ : ∃ W0, W0 = ((w.alloc (.cells #[.func (.func 85) #[] #[.pointer (some ⟨be, 0, none⟩), .pointer (some ⟨s0, 0, none⟩), .pointer (some ⟨ba, 0, none⟩)],
    .func (.func 88) #[] #[.pointer (some ⟨be, 0, none⟩), .pointer (some ⟨s0, 0, none⟩), .pointer (some ⟨ba, 0, none⟩)],
    .func (.func 91) #[] #[.pointer (some ⟨ba, 0, none⟩), .pointer (some ⟨be, 0, none⟩)]] 77)).alloc (.cells #[.int .i64 5] 3)).alloc (.cells #[.int .i64 0, .int .i64 0, .string ⟨#[]⟩, .slice none 0 0] 30) := ⟨_, rfl⟩
  obtain ⟨hR, hB, ⟨c0, c1, c2⟩, hL, hV, hz⟩ := value_begins ae w0 be s0 ba s st w h 5 _ _ _ W0 hW0
  have hn : n ≤ 12 := by have := rdI_count (s := s) (st := st1); rw [hc] at this; dsimp only at this; omega
  have hbe := h.boxE.lt
  have hba := h.boxA.lt
  have HS := Lib.hid (And.intro h.boxS.lt h.below.size)
  have HH := Lib.hid (And.intro hR (And.intro hB (And.intro hL hV)))
  have HZ := Lib.hid hz
  have h1 := readI ae w0 be s0 ba s st W0 hR 92 #[.pointer (some ⟨w.heap.size + 1, 0, none⟩)] (fun args w => by kernel_rfl) (upTo 5) (ask1 5 _ W0 hL)
  rw [hk] at h1
  have H1 := Lib.hid h1
  have HCC := Lib.hid hc
  clear h hR hB hL hV hz h1 hk hc
  have HC := Lib.hid (And.intro c0 (And.intro c1 c2))
  go_enter Tryz.func57, Tryz.ntmps57
  go_wp2_with fail
  rw [← hW0]
  refine H1.out.mono ?_
  rintro e w1 ⟨rfl, hR1, hM1⟩
  have hz1 := hM1.size
  rw [HZ.out] at hz1
  have nR : ¬ Own be ba w.heap.size := by unfold Own; omega
  have nV : ¬ Own be ba (w.heap.size + 2) := by unfold Own; omega
  have nX : ¬ Own be ba w1.heap.size := by unfold Own; omega
  have hV1 := HH.out.2.2.2.moved hM1 nV
  have hX1 := boxF_new w1 (.int .i64 5) (.int .i64 0) (.string ⟨#[]⟩) (.slice none 0 0) 30
  have d0 := (hM1.block w.heap.size (by rw [HZ.out]; omega) nR)
  have e0 := (World.cell?_of_block (w := W0) (w' := w1) (a := ⟨w.heap.size, 0, none⟩) d0).trans HC.out.1
  have e1 := (World.cell?_of_block (w := W0) (w' := w1) (a := ⟨w.heap.size, 1, none⟩) d0).trans HC.out.2.1
  have e2 := (World.cell?_of_block (w := W0) (w' := w1) (a := ⟨w.heap.size, 2, none⟩) d0).trans HC.out.2.2
  have hRa := hR1.later (Kit.below_alloc w1 (.cells #[.int .i64 5, .int .i64 0, .string ⟨#[]⟩, .slice none 0 0] 30))
  have HE := Lib.hid (And.intro e0 (And.intro e1 e2))
  have HR := Lib.hid (And.intro hR1 (And.intro hM1 (And.intro hV1 (And.intro hX1 hRa))))
  have hlt : w.heap.size < w1.heap.size := by omega
  have hlt2 : w.heap.size + 2 < w1.heap.size := by omega
  clear hR1 hM1 hV1 hX1 hRa d0 hW0 c0 c1 c2 hz1 e1 e2
  go_wp2_with fail
  have hrc := readI ae w0 be s0 ba s st1 _ HR.out.2.2.2.2 36 #[] (fun args w => by kernel_rfl) rightC (ask3 _)
  rw [HCC.out] at hrc
  dsimp only at hrc
  refine hrc.mono ?_
  clear hrc
  rintro e w2 ⟨rfl, hR2, hM2⟩
  have hz2 := hM2.size
  rw [World.size_alloc] at hz2
  have hI : LJ w be s0 ba w1.heap.size [] 0 (.slice none 0 0) w2.heap.size w2 :=
    ⟨World.ownsRow_nil _ _ _ _, fun _ => rfl, HR.out.2.2.2.1.moved hM2 nX, (HR.out.2.2.1.alloc _).moved hM2 nV,
      (World.cell?_of_block (a := ⟨w.heap.size, 0, none⟩) (hM2.block w.heap.size (by rw [World.size_alloc]; omega) nR)).trans (Kit.cell_kept _ HE.out.1),
      (World.cell?_of_block (a := ⟨w.heap.size, 1, none⟩) (hM2.block w.heap.size (by rw [World.size_alloc]; omega) nR)).trans (Kit.cell_kept _ HE.out.2.1),
      (World.cell?_of_block (a := ⟨w.heap.size, 2, none⟩) (hM2.block w.heap.size (by rw [World.size_alloc]; omega) nR)).trans (Kit.cell_kept _ HE.out.2.2),
      (((Kit.Moved.of_below HH.out.2.1).mono (T := Own be ba) (fun i hi hs => by omega)).trans HR.out.2.1 (fun _ _ h => h)).trans ((Kit.Moved.alloc (Own be ba) w1 _).trans hM2 (fun _ _ h => h)) (fun _ _ h => h), Nat.le_refl _, by omega, hlt2, hbe, hba⟩
  have HI := Lib.hid (And.intro hI hR2)
  clear hI hR2 hM2 e0
  go_wp2
  go_loopw [33] (fun i wr => ∃ (k : Nat) (lv : Value), k ≤ n ∧ i = .int .i64 k ∧ LJ w be s0 ba w1.heap.size (decL s k st2).1 k lv w2.heap.size wr ∧ RS ae w0 be s0 ba s (decL s k st2).2 wr) (fun i _ => n - (intOf i).toNat)
  case atStart => exact ⟨0, _, by omega, rfl, HI.out.1, HI.out.2⟩
  case round =>
    obtain ⟨k, lv, hkn, rfl, hI, hRk⟩ := hrel
    clear HI
    obtain ⟨a1, c1, rfl⟩ : ∃ a1 c1, lv = .slice a1 k c1 := by
      rcases hI.row.2 with ⟨h1, h2⟩ | ⟨g, cap, cur, h1, _⟩
      · exact ⟨none, 0, by rw [h1, h2]⟩
      · exact ⟨_, _, h1⟩
    by_cases hkl : k < n
    · obtain ⟨x, st3, hx⟩ : ∃ x st3, decF s 4 (decL s k st2).2 = (x, st3) := ⟨_, _, rfl⟩
      have hxf : x.isFlat := by have := decF_flat s 4 (decL s k st2).2; rw [hx] at this; exact this
      have hcall := fun W (hRS : RS ae w0 be s0 ba s (decL s k st2).2 W) => value_flat ae w0 be s0 ba s (decL s k st2).2 W hRS 4 (by have := rdI_le (s := s) (last := 4) (st := (decL s k st2).2) (by decide); omega)
      rw [hx] at hcall
      dsimp only at hcall
      have HX := Lib.hid (And.intro hcall (And.intro hxf hx))
      have r0 := hI.r0
      have r1 := hI.r1
      have r2 := hI.r2
      have J0 := Lib.hid (And.intro hI hRk)
      clear hI hRk hcall hxf hx
      obtain ⟨i0, hi0, hz0, hz1, hz2⟩ := info_parts vInfo3
      go_wp2
      refine wp_region_held_drew (S := fun w' => w'.cell? ⟨w.heap.size, 0, none⟩ = some (rf0 be s0 ba) ∧ w'.cell? ⟨w.heap.size, 1, none⟩ = some (rf1 be s0 ba) ∧ w'.cell? ⟨w.heap.size, 2, none⟩ = some (rf2 be ba)) (by kernel_rfl) ⟨r0, r1, r2⟩ (fun hHeld => ?_)
      have J1 := Lib.hid (And.intro (J0.out.1.later (w' := wr.drew) ((Below.refl _ _).drew)) (J0.out.2.later (w' := wr.drew) ((Below.refl _ _).drew)))
      clear J0 r0 r1 r2
      generalize wr.drew = W1 at *
      refine wpAnyH_take (i := 0) (v := .pointer (some ⟨w1.heap.size, 3, none⟩)) Kit.at0 (by kernel_rfl) (by kernel_rfl) (by kernel_rfl) (fun _ _ _ h => h) (Or.inl ⟨by rfl, fun w hw => ?_⟩) hHeld ?_
      · go_simp
      simp only [Act.put, List.setIfInBounds_toArray, List.set_cons_zero, List.set_cons_succ]
      refine wpAnyH_take (i := 2) (v := rdV be s0 ba) Kit.at2 (by kernel_rfl) (by kernel_rfl) (by kernel_rfl) (fun _ _ _ h => h) (Or.inl ⟨by rfl, fun w hw => ?_⟩) hHeld ?_
      · obtain ⟨q0, q1, q2⟩ := hw
        go_simp
      simp only [Act.put, List.setIfInBounds_toArray, List.set_cons_zero, List.set_cons_succ]
      refine wpAnyH_ready (rs := [1, 3, 5]) (by kernel_rfl) (by simp) ?_
      refine AllReadyH.cons Kit.at1 (fun K hK => ?b1) (AllReadyH.cons Kit.at3 (fun K hK => ?b3) (AllReadyH.cons Kit.at5 (fun K hK => ?b5) AllReadyH.nil))
      case' b1 =>
        have q := J1.out.1.v.c.2.2.2
        go_simp
        refine hK.out _ _ ⟨J1.out.1.r0, J1.out.1.r1, J1.out.1.r2⟩ (fun hHeld => ?_)
        clear hK K q
        refine wpAnyH_take (i := 4) (v := .int .i64 (k : Int)) Kit.at4 (by kernel_rfl) (by kernel_rfl) (by kernel_rfl) (fun _ _ _ h => h) (Or.inl ⟨by rfl, fun w hw => ?_⟩) hHeld ?_
        case' refine_1 => go_simp
        try simp only [Act.put, List.setIfInBounds_toArray, List.set_cons_zero, List.set_cons_succ]
        refine wpAnyH_ready (rs := [3, 5]) (by kernel_rfl) (by simp) ?_
        refine AllReadyH.cons Kit.at3 (fun K hK => ?b13) (AllReadyH.cons Kit.at5 (fun K hK => ?b15) AllReadyH.nil)
        case' b13 =>
          go_simp
          refine (HX.out.1 _ J1.out.2).mono ?_
          rintro e Wc ⟨rfl, hRc, hMc⟩
          have Jc := Lib.hid (And.intro (J1.out.1.call hMc) hRc)
          refine hK.out _ _ ⟨Jc.out.1.r0, Jc.out.1.r1, Jc.out.1.r2⟩ (fun hHeld => ?_)
          clear hK K hRc hMc J1
          try simp only [Act.put, List.setIfInBounds_toArray, List.set_cons_zero, List.set_cons_succ]
          refine wpAnyH_ready (rs := [5]) (by kernel_rfl) (by simp) ?_
          refine AllReadyH.cons Kit.at5 (fun K hK => ?_) AllReadyH.nil
          have Jb := Lib.hid (And.intro (Jc.out.1.later (Kit.below_alloc Wc (.cells zero4.toArray 30))) (Jc.out.2.later (Kit.below_alloc Wc (.cells zero4.toArray 30))))
          have Cb := Lib.hid (tmp_new Wc be ba (by have := Jc.out.1.base; have := Jc.out.1.xb; have := Jc.out.1.wx; omega) (by have := Jc.out.1.base; have := Jc.out.1.xb; have := Jc.out.1.wx; omega))
          refine Kit.step_buildSlice_one rfl 28 30 _ rfl zero4 rfl i0 _ Tryz.underlying28 hi0 hz0 (hz1.trans rfl) (by decide) (by decide) ?_
          refine hK.out _ _ ⟨Jb.out.1.r0, Jb.out.1.r1, Jb.out.1.r2⟩ (fun hHeld => ?_)
          clear hK K Jc
          try simp only [Act.put, List.setIfInBounds_toArray, List.set_cons_zero, List.set_cons_succ]
          generalize Wc.alloc (.cells zero4.toArray 30) = Wb at *
          generalize Wc.heap.size = T at *
          obtain ⟨J5, C5⟩ : Hid (LJ w be s0 ba w1.heap.size (decL s k st2).1 k (.slice a1 k c1) w2.heap.size Wb ∧ RS ae w0 be s0 ba s st3 Wb) ∧ Hid (Tmp T be ba Wb) := ⟨Jb, Cb⟩
          clear Jb Cb
          generalize Wb = W5 at *
        case' b15 =>
          have Jb := Lib.hid (And.intro (J1.out.1.later (Kit.below_alloc W1 (.cells zero4.toArray 30))) (J1.out.2.later (Kit.below_alloc W1 (.cells zero4.toArray 30))))
          have Cb := Lib.hid (tmp_new W1 be ba (by have := J1.out.1.base; have := J1.out.1.xb; have := J1.out.1.wx; omega) (by have := J1.out.1.base; have := J1.out.1.xb; have := J1.out.1.wx; omega))
          refine Kit.step_buildSlice_one rfl 28 30 _ rfl zero4 rfl i0 _ Tryz.underlying28 hi0 hz0 (hz1.trans rfl) (by decide) (by decide) ?_
          refine hK.out _ _ ⟨Jb.out.1.r0, Jb.out.1.r1, Jb.out.1.r2⟩ (fun hHeld => ?_)
          clear hK K J1
          try simp only [Act.put, List.setIfInBounds_toArray, List.set_cons_zero, List.set_cons_succ]
          generalize W1.alloc (.cells zero4.toArray 30) = Wb at *
          generalize W1.heap.size = T at *
          refine wpAnyH_ready (rs := [3]) (by kernel_rfl) (by simp) ?_
          refine AllReadyH.cons Kit.at3 (fun K hK => ?_) AllReadyH.nil
          go_simp
          refine (HX.out.1 _ Jb.out.2).mono ?_
          rintro e Wc ⟨rfl, hRc, hMc⟩
          have Jc := Lib.hid (And.intro (Jb.out.1.call hMc) hRc)
          have Cc := Lib.hid (tmp_moved Cb.out hMc)
          refine hK.out _ _ ⟨Jc.out.1.r0, Jc.out.1.r1, Jc.out.1.r2⟩ (fun hHeld => ?_)
          clear hK K hRc hMc Jb Cb
          try simp only [Act.put, List.setIfInBounds_toArray, List.set_cons_zero, List.set_cons_succ]
          obtain ⟨J5, C5⟩ : Hid (LJ w be s0 ba w1.heap.size (decL s k st2).1 k (.slice a1 k c1) w2.heap.size Wc ∧ RS ae w0 be s0 ba s st3 Wc) ∧ Hid (Tmp T be ba Wc) := ⟨Jc, Cc⟩
          clear Jc Cc
          generalize Wc = W5 at *
      case' b3 =>
        go_simp
        refine (HX.out.1 _ J1.out.2).mono ?_
        rintro e Wc ⟨rfl, hRc, hMc⟩
        have Jc := Lib.hid (And.intro (J1.out.1.call hMc) hRc)
        refine hK.out _ _ ⟨Jc.out.1.r0, Jc.out.1.r1, Jc.out.1.r2⟩ (fun hHeld => ?_)
        clear hK K hRc hMc J1
        try simp only [Act.put, List.setIfInBounds_toArray, List.set_cons_zero, List.set_cons_succ]
        refine wpAnyH_ready (rs := [1, 5]) (by kernel_rfl) (by simp) ?_
        refine AllReadyH.cons Kit.at1 (fun K hK => ?b31) (AllReadyH.cons Kit.at5 (fun K hK => ?b35) AllReadyH.nil)
        case' b31 =>
          have q := Jc.out.1.v.c.2.2.2
          go_simp
          refine hK.out _ _ ⟨Jc.out.1.r0, Jc.out.1.r1, Jc.out.1.r2⟩ (fun hHeld => ?_)
          clear hK K q
          refine wpAnyH_take (i := 4) (v := .int .i64 (k : Int)) Kit.at4 (by kernel_rfl) (by kernel_rfl) (by kernel_rfl) (fun _ _ _ h => h) (Or.inl ⟨by rfl, fun w hw => ?_⟩) hHeld ?_
          case' refine_1 => go_simp
          try simp only [Act.put, List.setIfInBounds_toArray, List.set_cons_zero, List.set_cons_succ]
          refine wpAnyH_ready (rs := [5]) (by kernel_rfl) (by simp) ?_
          refine AllReadyH.cons Kit.at5 (fun K hK => ?_) AllReadyH.nil
          have Jb := Lib.hid (And.intro (Jc.out.1.later (Kit.below_alloc Wc (.cells zero4.toArray 30))) (Jc.out.2.later (Kit.below_alloc Wc (.cells zero4.toArray 30))))
          have Cb := Lib.hid (tmp_new Wc be ba (by have := Jc.out.1.base; have := Jc.out.1.xb; have := Jc.out.1.wx; omega) (by have := Jc.out.1.base; have := Jc.out.1.xb; have := Jc.out.1.wx; omega))
          refine Kit.step_buildSlice_one rfl 28 30 _ rfl zero4 rfl i0 _ Tryz.underlying28 hi0 hz0 (hz1.trans rfl) (by decide) (by decide) ?_
          refine hK.out _ _ ⟨Jb.out.1.r0, Jb.out.1.r1, Jb.out.1.r2⟩ (fun hHeld => ?_)
          clear hK K Jc
          try simp only [Act.put, List.setIfInBounds_toArray, List.set_cons_zero, List.set_cons_succ]
          generalize Wc.alloc (.cells zero4.toArray 30) = Wb at *
          generalize Wc.heap.size = T at *
          obtain ⟨J5, C5⟩ : Hid (LJ w be s0 ba w1.heap.size (decL s k st2).1 k (.slice a1 k c1) w2.heap.size Wb ∧ RS ae w0 be s0 ba s st3 Wb) ∧ Hid (Tmp T be ba Wb) := ⟨Jb, Cb⟩
          clear Jb Cb
          generalize Wb = W5 at *
        case' b35 =>
          have Jb := Lib.hid (And.intro (Jc.out.1.later (Kit.below_alloc Wc (.cells zero4.toArray 30))) (Jc.out.2.later (Kit.below_alloc Wc (.cells zero4.toArray 30))))
          have Cb := Lib.hid (tmp_new Wc be ba (by have := Jc.out.1.base; have := Jc.out.1.xb; have := Jc.out.1.wx; omega) (by have := Jc.out.1.base; have := Jc.out.1.xb; have := Jc.out.1.wx; omega))
          refine Kit.step_buildSlice_one rfl 28 30 _ rfl zero4 rfl i0 _ Tryz.underlying28 hi0 hz0 (hz1.trans rfl) (by decide) (by decide) ?_
          refine hK.out _ _ ⟨Jb.out.1.r0, Jb.out.1.r1, Jb.out.1.r2⟩ (fun hHeld => ?_)
          clear hK K Jc
          try simp only [Act.put, List.setIfInBounds_toArray, List.set_cons_zero, List.set_cons_succ]
          generalize Wc.alloc (.cells zero4.toArray 30) = Wb at *
          generalize Wc.heap.size = T at *
          refine wpAnyH_ready (rs := [1]) (by kernel_rfl) (by simp) ?_
          refine AllReadyH.cons Kit.at1 (fun K hK => ?_) AllReadyH.nil
          have q := Jb.out.1.v.c.2.2.2
          go_simp
          refine hK.out _ _ ⟨Jb.out.1.r0, Jb.out.1.r1, Jb.out.1.r2⟩ (fun hHeld => ?_)
          clear hK K q
          refine wpAnyH_take (i := 4) (v := .int .i64 (k : Int)) Kit.at4 (by kernel_rfl) (by kernel_rfl) (by kernel_rfl) (fun _ _ _ h => h) (Or.inl ⟨by rfl, fun w hw => ?_⟩) hHeld ?_
          case' refine_1 => go_simp
          try simp only [Act.put, List.setIfInBounds_toArray, List.set_cons_zero, List.set_cons_succ]
          obtain ⟨J5, C5⟩ : Hid (LJ w be s0 ba w1.heap.size (decL s k st2).1 k (.slice a1 k c1) w2.heap.size Wb ∧ RS ae w0 be s0 ba s st3 Wb) ∧ Hid (Tmp T be ba Wb) := ⟨Jb, Cb⟩
          clear Jb Cb
          generalize Wb = W5 at *
      case' b5 =>
        have Jb := Lib.hid (And.intro (J1.out.1.later (Kit.below_alloc W1 (.cells zero4.toArray 30))) (J1.out.2.later (Kit.below_alloc W1 (.cells zero4.toArray 30))))
        have Cb := Lib.hid (tmp_new W1 be ba (by have := J1.out.1.base; have := J1.out.1.xb; have := J1.out.1.wx; omega) (by have := J1.out.1.base; have := J1.out.1.xb; have := J1.out.1.wx; omega))
        refine Kit.step_buildSlice_one rfl 28 30 _ rfl zero4 rfl i0 _ Tryz.underlying28 hi0 hz0 (hz1.trans rfl) (by decide) (by decide) ?_
        refine hK.out _ _ ⟨Jb.out.1.r0, Jb.out.1.r1, Jb.out.1.r2⟩ (fun hHeld => ?_)
        clear hK K J1
        try simp only [Act.put, List.setIfInBounds_toArray, List.set_cons_zero, List.set_cons_succ]
        generalize W1.alloc (.cells zero4.toArray 30) = Wb at *
        generalize W1.heap.size = T at *
        refine wpAnyH_ready (rs := [1, 3]) (by kernel_rfl) (by simp) ?_
        refine AllReadyH.cons Kit.at1 (fun K hK => ?b51) (AllReadyH.cons Kit.at3 (fun K hK => ?b53) AllReadyH.nil)
        case' b51 =>
          have q := Jb.out.1.v.c.2.2.2
          go_simp
          refine hK.out _ _ ⟨Jb.out.1.r0, Jb.out.1.r1, Jb.out.1.r2⟩ (fun hHeld => ?_)
          clear hK K q
          refine wpAnyH_take (i := 4) (v := .int .i64 (k : Int)) Kit.at4 (by kernel_rfl) (by kernel_rfl) (by kernel_rfl) (fun _ _ _ h => h) (Or.inl ⟨by rfl, fun w hw => ?_⟩) hHeld ?_
          case' refine_1 => go_simp
          try simp only [Act.put, List.setIfInBounds_toArray, List.set_cons_zero, List.set_cons_succ]
          refine wpAnyH_ready (rs := [3]) (by kernel_rfl) (by simp) ?_
          refine AllReadyH.cons Kit.at3 (fun K hK => ?_) AllReadyH.nil
          go_simp
          refine (HX.out.1 _ Jb.out.2).mono ?_
          rintro e Wc ⟨rfl, hRc, hMc⟩
          have Jc := Lib.hid (And.intro (Jb.out.1.call hMc) hRc)
          have Cc := Lib.hid (tmp_moved Cb.out hMc)
          refine hK.out _ _ ⟨Jc.out.1.r0, Jc.out.1.r1, Jc.out.1.r2⟩ (fun hHeld => ?_)
          clear hK K hRc hMc Jb Cb
          try simp only [Act.put, List.setIfInBounds_toArray, List.set_cons_zero, List.set_cons_succ]
          obtain ⟨J5, C5⟩ : Hid (LJ w be s0 ba w1.heap.size (decL s k st2).1 k (.slice a1 k c1) w2.heap.size Wc ∧ RS ae w0 be s0 ba s st3 Wc) ∧ Hid (Tmp T be ba Wc) := ⟨Jc, Cc⟩
          clear Jc Cc
          generalize Wc = W5 at *
        case' b53 =>
          go_simp
          refine (HX.out.1 _ Jb.out.2).mono ?_
          rintro e Wc ⟨rfl, hRc, hMc⟩
          have Jc := Lib.hid (And.intro (Jb.out.1.call hMc) hRc)
          have Cc := Lib.hid (tmp_moved Cb.out hMc)
          refine hK.out _ _ ⟨Jc.out.1.r0, Jc.out.1.r1, Jc.out.1.r2⟩ (fun hHeld => ?_)
          clear hK K hRc hMc Jb Cb
          try simp only [Act.put, List.setIfInBounds_toArray, List.set_cons_zero, List.set_cons_succ]
          refine wpAnyH_ready (rs := [1]) (by kernel_rfl) (by simp) ?_
          refine AllReadyH.cons Kit.at1 (fun K hK => ?_) AllReadyH.nil
          have q := Jc.out.1.v.c.2.2.2
          go_simp
          refine hK.out _ _ ⟨Jc.out.1.r0, Jc.out.1.r1, Jc.out.1.r2⟩ (fun hHeld => ?_)
          clear hK K q
          refine wpAnyH_take (i := 4) (v := .int .i64 (k : Int)) Kit.at4 (by kernel_rfl) (by kernel_rfl) (by kernel_rfl) (fun _ _ _ h => h) (Or.inl ⟨by rfl, fun w hw => ?_⟩) hHeld ?_
          case' refine_1 => go_simp
          try simp only [Act.put, List.setIfInBounds_toArray, List.set_cons_zero, List.set_cons_succ]
          obtain ⟨J5, C5⟩ : Hid (LJ w be s0 ba w1.heap.size (decL s k st2).1 k (.slice a1 k c1) w2.heap.size Wc ∧ RS ae w0 be s0 ba s st3 Wc) ∧ Hid (Tmp T be ba Wc) := ⟨Jc, Cc⟩
          clear Jc Cc
          generalize Wc = W5 at *
      all_goals
        refine wpAnyH_ready (rs := [6]) (by kernel_rfl) (by simp) ?_
        refine AllReadyH.cons Kit.at6 (fun K hK => ?_) AllReadyH.nil
        refine Kit.step_append_own_at rfl _ _ 28 rfl w2.heap.size 30 i0 (.agg zero4.toArray) 4 56 Tryz.underlying28 hi0 hz0 hz1 hz2 rfl (by decide) (.slice a1 k c1) k ((decL s k st2).1.flatMap cellsF) rfl J5.out.1.row ⟨T, 0, none⟩ 1 1 zero4 rfl rfl C5.out.2.2.2 zero4_one (by unfold maxLen; omega) (by omega) J5.out.1.base ?_
        intro v' w6 hown' hgrow hat
        obtain ⟨g, cap, rfl, hgb, hgl⟩ := Kit.ownsRow_succ' hown'
        have H6 := Lib.hid (And.intro hown' (And.intro hgrow hgb))
        have N6 := Lib.hid (J5.out.1.appended hgrow)
        obtain ⟨t0, t1, t2, t3⟩ := row_cells (decL_len s k st2) hown'
        have f0 := Kit.ownsRow_frozen hown' (g := g) rfl (k * 4)
        have f1 := Kit.ownsRow_frozen hown' (g := g) rfl (k * 4 + 1)
        have f2 := Kit.ownsRow_frozen hown' (g := g) rfl (k * 4 + 2)
        have f3 := Kit.ownsRow_frozen hown' (g := g) rfl (k * 4 + 3)
        have x3 := N6.out.1.c.2.2.2
        have y3 := N6.out.1.f 3
        have hgX : ¬ g = w1.heap.size := by have := J5.out.1.xb; omega
        have hXg : ¬ w1.heap.size = g := fun h => hgX h.symm
        have i1 : (0 : Int) ≤ (k : Int) := by omega
        have i2 : (k : Int) < (k : Int) + 1 := by omega
        have S6 := Lib.hid N6.out.2
        clear hown' hgrow hat hgb hgl
        refine hK.out _ _ S6.out (fun hHeld => ?_)
        clear hK K
        try simp only [Act.put, List.setIfInBounds_toArray, List.set_cons_zero, List.set_cons_succ]
        refine wpAnyH_take (i := 7) (v := .pointer (some ⟨g, k * 4, none⟩)) Kit.at7 (by kernel_rfl) (by kernel_rfl) (by kernel_rfl) (fun _ _ _ h => h) (Or.inl ⟨by rfl, fun w hw => ?_⟩) hHeld ?_
        case' refine_1 => go_simp
        try simp only [Act.put, List.setIfInBounds_toArray, List.set_cons_zero, List.set_cons_succ]
        refine wpAnyH_take (i := 9) (v := .pointer (some ⟨w1.heap.size, 3, none⟩)) Kit.at9 (by kernel_rfl) (by kernel_rfl) (by kernel_rfl) (fun _ _ _ h => h) (Or.inl ⟨by rfl, fun w hw => ?_⟩) hHeld ?_
        case' refine_1 => go_simp
        try simp only [Act.put, List.setIfInBounds_toArray, List.set_cons_zero, List.set_cons_succ]
        have HW := Lib.hid (fun W hW => J5.out.1.ends (W := W) (x := x) (decL_len s k st2) HX.out.2.1 H6.out.2.1 H6.out.1 H6.out.2.2 hW)
        refine wpAnyH_ready (rs := [8, 10]) (by kernel_rfl) (by simp) ?_
        refine AllReadyH.cons Kit.at8 (fun K hK => ?_) (AllReadyH.cons Kit.at10 (fun K hK => ?_) AllReadyH.nil)
        · go_simp
          refine hK.out _ _ (reader_kept S6.out (put4_moved w6 g k x) (by have := H6.out.2.2; omega)) (fun hHeld => ?_)
          clear hK K
          refine wpAnyH_ready (rs := [10]) (by kernel_rfl) (by simp) ?_
          refine AllReadyH.cons Kit.at10 (fun K hK => ?_) AllReadyH.nil
          go_simp
          have HE := Lib.hid (HW.out _ (.inl rfl))
          refine hK.out _ _ ⟨HE.out.1.r0, HE.out.1.r1, HE.out.1.r2⟩ (fun _ => wpAnyH_done (by kernel_rfl) ?_ _)
          clear hK K
          go_wp2
          go_roundw
          case rel =>
            refine ⟨k + 1, .slice (some ⟨g, 0, none⟩) (k + 1) cap, by omega, by go_num, ?_, ?_⟩
            · rw [decL, HX.out.2.2]; exact HE.out.1
            · rw [decL, HX.out.2.2]
              exact J5.out.2.moved HE.out.2 (fun j hj => by have := HS.out.2; omega) (by omega) (by have := HS.out.1; omega) (by omega)
          case measure => simp [intOf]; omega
        · go_simp
          refine hK.out _ _ (reader_kept S6.out (Kit.Moved.setCell (fun j => j = w1.heap.size) w6 ⟨w1.heap.size, 3, none⟩ _ rfl) (by omega)) (fun hHeld => ?_)
          clear hK K
          refine wpAnyH_ready (rs := [8]) (by kernel_rfl) (by simp) ?_
          refine AllReadyH.cons Kit.at8 (fun K hK => ?_) AllReadyH.nil
          go_simp
          have HE := Lib.hid (HW.out _ (.inr rfl))
          refine hK.out _ _ ⟨HE.out.1.r0, HE.out.1.r1, HE.out.1.r2⟩ (fun _ => wpAnyH_done (by kernel_rfl) ?_ _)
          clear hK K
          go_wp2
          go_roundw
          case rel =>
            refine ⟨k + 1, .slice (some ⟨g, 0, none⟩) (k + 1) cap, by omega, by go_num, ?_, ?_⟩
            · rw [decL, HX.out.2.2]; exact HE.out.1
            · rw [decL, HX.out.2.2]
              exact J5.out.2.moved HE.out.2 (fun j hj => by have := HS.out.2; omega) (by omega) (by have := HS.out.1; omega) (by omega)
          case measure => simp [intOf]; omega
    · obtain rfl : k = n := by omega
      obtain ⟨⟨x0, x1, x2, x3⟩, xf⟩ := hI.v
      obtain ⟨⟨y0, y1, y2, y3⟩, yf⟩ := hI.res
      have yf0 := yf 0
      have yf1 := yf 1
      have yf2 := yf 2
      have yf3 := yf 3
      have HI := Lib.hid (And.intro hI hRk)
      have hne : w.heap.size + 2 ≠ w1.heap.size := by omega
      clear xf yf hI hRk
      go_wp2
      have hm4 := end4 (n := w.heap.size) (b := w.heap.size + 2) (by omega) wr (.int .i64 5) (.int .i64 0) (.string (bs [])) (.slice a1 k c1)
      refine bodyPost_ret (v := aggV 5 0 (bs []) (.slice a1 k c1)) (by simp [results, Tryz.results57, go_sem, y0, y1, y2, y3]) rfl ⟨⟨_, rfl, ?_, ?_⟩, ?_⟩
      · refine repL_own (e := 30) (base := w2.heap.size) (Kit.ownsRow_kept HI.out.1.row fun j hj => ?_) (decL_len s k st2).symm (decL_flat s k st2) HI.out.1.nil
        have hj2 := HI.out.1.row.lt j hj
        exact (end4b (w.heap.size + 2) wr (.int .i64 5) (.int .i64 0) (.string (bs [])) (.slice a1 k c1)).block j hj2.2 (by omega)
      · exact fun j hj => by have := (HI.out.1.row.lt j hj).1; omega
      · exact ⟨HI.out.2.moved hm4 (fun j hj => by have := HS.out.2; omega) (by omega) (by have := HS.out.1; omega) (by omega), HI.out.1.moved.trans hm4 (fun j hj hS => by omega)⟩
end Go.Proofs.YtbmhlpojgiminaaGreatDoor.Val
