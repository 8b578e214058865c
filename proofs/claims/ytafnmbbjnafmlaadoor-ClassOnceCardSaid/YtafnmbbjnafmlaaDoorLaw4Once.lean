/- Layer 4's laws: ClassOnce. -/
import Derived.Test.YtafnmbbjnafmlaaDoorLaw4Ex
import Derived.Test.YtafnmbbjnafmlaaDoorClassMath3
import Derived.Deep.RegionWith
import Derived.Deep.QuietTactic
namespace Go.Proofs.YtafnmbbjnafmlaaDoor.Cls
open Go.RowKit
open Kit (ret_int ret_bool Moved)
open Val (Env flat bs Vl Rep RepL)

attribute [local go_sem] Oper.semAt_some

/-- A class whose fields lie at a place. -/
structure At (W : World) (bc : Nat) (V : Cl) (b o c : Nat) : Prop where
  c0 : W.cell? ⟨bc, 0, none⟩ = some (.string V.nm)
  c1 : W.cell? ⟨bc, 1, none⟩ = some (.slice (some ⟨b, o, none⟩) V.l.length c)
  row : W.rangeAt b o (V.l.flatMap cellsFd)
  lt : b < W.heap.size
  len : V.l.length ≤ 1000
theorem At.later {W W' : World} {bc b o c : Nat} {V : Cl} (h : At W bc V b o c) (hB : Below W.heap.size W W') : At W' bc V b o c :=
  ⟨(hB.cell (p := ⟨bc, 0, none⟩) (Kit.lt_of_cell h.c0)).trans h.c0, (hB.cell (p := ⟨bc, 1, none⟩) (Kit.lt_of_cell h.c1)).trans h.c1, Val.rangeAt_heap h.row (hB.block b h.lt), Nat.lt_of_lt_of_le h.lt hB.size, h.len⟩
theorem At.fd {W : World} {bc b o c : Nat} {V : Cl} (h : At W bc V b o c) : FdL W.heap.size W V.l (.slice (some ⟨b, o, none⟩) V.l.length c) :=
  .inr ⟨b, o, c, h.lt, rfl, by have := h.len; unfold maxLen; omega, h.row⟩
theorem At.nm {W : World} {bc b o c : Nat} {V : Cl} (h : At W bc V b o c) {k : Nat} {f : Fd} (hk : V.l[k]? = some f) : W.cell? ⟨b, o + k * 4, none⟩ = some (.string f.nm) := by
  have := h.row (k * 4) _ (cells_at V.l k f hk 0 _ rfl)
  simpa using this
theorem At.cells {W : World} {bc b o c : Nat} {V : Cl} (h : At W bc V b o c) : ∀ (j : Nat) (u : Value), (V.l.flatMap cellsFd)[j]? = some u → W.cell? ((⟨b, o, none⟩ : Addr).add j) = some u := fun j u hu => by
  rw [Addr.add_mid]; exact h.row j u hu
theorem cellsFds_one (l : List Fd) : ∀ u ∈ l.flatMap cellsFd, u.oneCell' = true := by
  intro u hu
  obtain ⟨x, _, h⟩ := List.mem_flatMap.1 hu
  exact cellsFd_one x u h
/-- Where one cell of a list of fields is set. -/
theorem cells_set : ∀ (l : List Fd) (k : Nat) (f g : Fd) (j : Nat) (v : Value), l[k]? = some f → (cellsFd f).set j v = cellsFd g → j < 4 → (l.flatMap cellsFd).set (k * 4 + j) v = (l.set k g).flatMap cellsFd
  | [], _, _, _, _, _, h, _, _ => by simp at h
  | y :: r, 0, f, g, j, v, h, hs, hj => by
    simp only [List.getElem?_cons_zero, Option.some.injEq] at h
    subst h
    rw [List.flatMap_cons, List.set_append_left _ _ (by simp; omega), Nat.zero_mul, Nat.zero_add, hs, List.set_cons_zero, List.flatMap_cons]
  | y :: r, k + 1, f, g, j, v, h, hs, hj => by
    rw [List.flatMap_cons, List.set_append_right _ _ (by simp; omega), show (k + 1) * 4 + j - (cellsFd y).length = k * 4 + j from by simp; omega, cells_set r k f g j v (by simpa using h) hs hj, List.set_cons_succ, List.flatMap_cons]

/-- What lies in memory while a class is copied: the box, and a row of its own. -/
structure CpW (w : World) (nm : ByteArray) (cv : Value) (n : Nat) (xs : List Value) (lv : Value) (W : World) : Prop where
  c0 : W.cell? ⟨w.heap.size, 0, none⟩ = some (.string nm)
  c1 : W.cell? ⟨w.heap.size, 1, none⟩ = some cv
  cf : ∀ i, W.frozen? ⟨w.heap.size, i, none⟩ = false
  row : W.ownsRow (w.heap.size + 1) 47 4 lv n xs
  below : Below w.heap.size w W
  sz : w.heap.size + 1 ≤ W.heap.size
theorem CpW.begins (w : World) (nm : ByteArray) (cv : Value) : CpW w nm cv 0 [] (.slice none 0 0) (w.alloc (.cells #[.string nm, cv] 27)) :=
  ⟨Kit.cell_new w #[.string nm, cv] 27 0 rfl, Kit.cell_new w #[.string nm, cv] 27 1 rfl, fun i => Kit.frozen_new _ _ _ i, World.ownsRow_nil _ _ _ _, Kit.below_alloc _ _, by simp⟩
theorem CpW.grow {w : World} {nm : ByteArray} {cv : Value} {n n' : Nat} {xs xs' : List Value} {lv lv' : Value} {W W' : World} {S : Nat → Prop} (h : CpW w nm cv n xs lv W) (hm : Moved S W W') (hS : ∀ j, S j → w.heap.size + 1 ≤ j)
    (hown : W'.ownsRow (w.heap.size + 1) 47 4 lv' n' xs') : CpW w nm cv n' xs' lv' W' := by
  have hz := h.sz
  have hn : ¬ S w.heap.size := fun hs => by have := hS _ hs; omega
  exact ⟨Val.cell_moved h.c0 hm hn, Val.cell_moved h.c1 hm hn, fun i => (World.frozen?_of_block (hm.block w.heap.size (by omega) hn)).trans (h.cf i), hown, h.below.trans (hm.below (fun k hk => by have := hS k hk; omega) (by omega)), Nat.le_trans hz hm.size⟩
theorem CpW.alloc {w : World} {nm : ByteArray} {cv : Value} {n : Nat} {xs : List Value} {lv : Value} {W : World} (h : CpW w nm cv n xs lv W) (o : Obj) : CpW w nm cv n xs lv (W.alloc o) :=
  h.grow (S := fun _ => False) (Moved.alloc _ W o) (fun _ h => h.elim) (h.row.alloc o)
theorem CpW.drew {w : World} {nm : ByteArray} {cv : Value} {n : Nat} {xs : List Value} {lv : Value} {W : World} (h : CpW w nm cv n xs lv W) : CpW w nm cv n xs lv W.drew :=
  h.grow (S := fun _ => False) ((Moved.refl _ W).trans (Moved.of_below (B := W.heap.size + W.heap.size) ((Below.refl _ W).drew)) (fun i hi hs => by omega)) (fun _ h => h.elim) (Kit.ownsRow_kept h.row fun _ _ => rfl)
theorem CpW.stored {w : World} {nm : ByteArray} {cv : Value} {n : Nat} {xs : List Value} {lv : Value} {W : World} (h : CpW w nm cv n xs lv W) : CpW w nm lv n xs lv (W.setCell ⟨w.heap.size, 1, none⟩ lv) := by
  have hz := h.sz
  have hm : Moved (fun j => j = w.heap.size) W (W.setCell ⟨w.heap.size, 1, none⟩ lv) := Moved.setCell _ _ _ _ rfl
  exact ⟨(World.cell?_setCell_other _ _ _ _ (by simp)).trans h.c0, World.cell?_setCell_same _ _ _ h.c1, fun i => (World.frozen?_setCell _ _ _ _).trans (h.cf i), Kit.ownsRow_kept h.row fun j hj => hm.block j (h.row.lt j hj).2 (by have := (h.row.lt j hj).1; omega), h.below.trans (hm.below (fun k hk => by omega) (by omega)), Nat.le_trans hz hm.size⟩
theorem CpW.set {w : World} {nm : ByteArray} {cv : Value} {g cap n : Nat} {xs : List Value} {W : World} (h : CpW w nm cv n xs (.slice (some ⟨g, 0, none⟩) n cap) W) (o : Nat) (v : Value) (ho : o < n * 4) : CpW w nm cv n (xs.set o v) (.slice (some ⟨g, 0, none⟩) n cap) (W.setCell ⟨g, o, none⟩ v) := by
  have hg := (h.row.lt g rfl).1
  exact h.grow (S := fun j => j = g) (Moved.setCell _ _ _ _ rfl) (fun j hj => by omega) (Kit.ownsRow_set h.row o v ho)
theorem CpW.at {w : World} {nm : ByteArray} {g cap n : Nat} {xs : List Value} {W : World} (h : CpW w nm (.slice (some ⟨g, 0, none⟩) n cap) n xs (.slice (some ⟨g, 0, none⟩) n cap) W) {l : List Fd} (hx : xs = l.flatMap cellsFd) (hn : n = l.length) (hl : l.length ≤ 1000) : At W w.heap.size ⟨nm, l⟩ g 0 cap := by
  subst hx hn
  exact ⟨h.c0, h.c1, fun j u hu => by have := h.row.cells (g := g) rfl j u hu; rw [Addr.add_mid] at this; exact this, (h.row.lt g rfl).2, hl⟩
theorem CpW.cellAt {w : World} {nm : ByteArray} {cv : Value} {g cap n : Nat} {l : List Fd} {W : World} (h : CpW w nm cv n (l.flatMap cellsFd) (.slice (some ⟨g, 0, none⟩) n cap) W) {k j : Nat} {f : Fd} {v : Value} (hk : l[k]? = some f) (hv : (cellsFd f)[j]? = some v) : W.cell? ⟨g, k * 4 + j, none⟩ = some v ∧ W.frozen? ⟨g, k * 4 + j, none⟩ = false := by
  refine ⟨?_, Kit.ownsRow_frozen h.row rfl _⟩
  have := h.row.cells (g := g) rfl (k * 4 + j) v (cells_at l k f hk j v hv)
  rw [Addr.add_mid, Nat.zero_add] at this
  exact this
theorem fieldR_nm {f : Fd} (h : fieldR f = true) : rightNm f.nm = true := by
  unfold fieldR at h
  rw [Bool.and_eq_true] at h
  exact h.1
theorem once_wide {c : Cl} (hc : clsR c = true) {k : Nat} {f : Fd} (hk : c.l[k]? = some f) :
    ∃ D : List Fd, D = c.l.set k ⟨f.nm, 5, 1, true⟩ ∧ D.length = c.l.length ∧ D[k]? = some ⟨f.nm, 5, 1, true⟩ ∧ clsR ⟨c.nm, D⟩ = false ∧ clsR ⟨c.nm, D.set k ⟨f.nm, 5, 1, false⟩⟩ = true := by
  have hlt : k < c.l.length := (List.getElem?_eq_some_iff.1 hk).1
  have hn := fieldR_nm (((clsR_iff c).1 hc).2.2.1 k f hk)
  refine ⟨_, rfl, by simp, by simp [hlt], ?_, ?_⟩
  · rw [once_flat hc hk (g := ⟨f.nm, 5, 1, true⟩) rfl]
    show (rightNm f.nm && (Val.rightTy 5 1 && (!true || indexK 5))) = false
    rw [show (Val.rightTy 5 1 && (!true || indexK 5)) = false from rfl, Bool.and_false]
  · rw [List.set_set, once_flat hc hk (g := ⟨f.nm, 5, 1, false⟩) rfl]
    show (rightNm f.nm && (Val.rightTy 5 1 && (!false || indexK 5))) = true
    rw [hn]; rfl
theorem once_data {V : Cl} (hr : clsR V = true) {k : Nat} {f : Fd} (hk : V.l[k]? = some f) (b : UInt8) (hn : ∃ j, j < 6 ∧ f.nm = nameN j) :
    ∃ (m : Bool) (place : Int), clsR ⟨V.nm, V.l.set k ⟨f.nm ++ ⟨#[b]⟩, f.k, f.o, f.ix⟩⟩ = (nameByte b.toNat && m) ∧ fieldV V.l (f.nm ++ ⟨#[b]⟩) = .tuple #[.int .i64 place, .bool (!m)] ∧ fieldV V.l f.nm = .tuple #[.int .i64 (k : Int), .bool true] ∧ clsR ⟨V.nm, V.l ++ [⟨f.nm, 1, 0, false⟩]⟩ = false := by
  obtain ⟨j, hj, he⟩ := hn
  refine ⟨decide (fieldAt V.l (f.nm ++ ⟨#[b]⟩) < 0), if fieldAt V.l (f.nm ++ ⟨#[b]⟩) < 0 then 0 else fieldAt V.l (f.nm ++ ⟨#[b]⟩), ?_, ?_, ?_, once_twice hk rfl⟩
  · have h2 : rightNm (f.nm ++ ⟨#[b]⟩) = nameByte b.toNat := by rw [he]; exact ext_right hj b
    rw [← h2]
    exact once_odd hr hk (g := ⟨f.nm ++ ⟨#[b]⟩, f.k, f.o, f.ix⟩) (more_ne _ _) rfl rfl rfl
  · unfold fieldV
    by_cases h : fieldAt V.l (f.nm ++ ⟨#[b]⟩) < 0
    · rw [if_pos h, decide_eq_true h, if_pos h]; rfl
    · rw [if_neg h, decide_eq_false h, if_neg h]; rfl
  · have h := fieldAt_apart ((clsR_iff V).1 hr).2.2.2 hk
    unfold fieldV
    rw [h, if_neg (by omega)]
theorem nameN_size (i : Nat) : (nameN i).size ≤ 8 := by
  unfold nameN
  repeat' split
  all_goals decide
theorem ownsRow_pos {w : World} {base : Nat} {e : TypeId} {size : Nat} {v : Value} {n : Nat} {xs : List Value} (h : w.ownsRow base e size v n xs) (hn : 0 < n) : ∃ g cap, v = .slice (some ⟨g, 0, none⟩) n cap := by
  obtain ⟨m, rfl⟩ : ∃ m, n = m + 1 := ⟨n - 1, by omega⟩
  obtain ⟨g, cap, h, -, -⟩ := Kit.ownsRow_succ' h
  exact ⟨g, cap, h⟩
theorem newF (W : World) (f : Fd) : ∀ (j : Nat) (u : Value), (cellsFd f)[j]? = some u → (W.alloc (.cells (cellsFd f).toArray 47)).cell? ((⟨W.heap.size, 0, none⟩ : Addr).add j) = some u := fun j u hu => by
  rw [Addr.add_mid]
  exact Kit.cell_new W _ _ (0 + j) (by rw [Nat.zero_add, List.getElem?_toArray]; exact hu)
/-- A slice of one byte, as a text: a step of a region that draws. -/
theorem step_convert_byte {P : Program} {ops : Array Oper} {o : Oper} {a : Act} {w : World} {K : Act → World → Prop} {Q : Exit → Act → World → Prop} {E : Prop}
    (hg : o.guard = none) (src dst e : TypeId) (x : Operand) (ho : o.op = .convert src dst x) (hs : P.underlying src = some (.slice e)) (he : P.underlying e = some (.int .u8)) (hd : P.underlying dst = some .string)
    (T c : Nat) (b : UInt8) (hx : a.eval x = .slice (some ⟨T, 0, none⟩) 1 c) (hc : w.cell? ⟨T, 0, none⟩ = some (.int .u8 (b.toNat : Int)))
    (h : K (a.put o.dst (.string ⟨#[b]⟩)) w) : if Region.wanted o (yielded ops a.tmps) = true then Oper.wp P o a w K Q else E := by
  have hw : Region.wanted o (yielded ops a.tmps) = true := by simp [Region.wanted, hg]
  rw [if_pos hw]
  have hr := run_convert_bytes_arg (P := P) w src e hs he T 0 1 c [(b.toNat : Int)] rfl (fun i hi => by
    obtain rfl : i = 0 := by omega
    simpa using hc) dst hd
  have e1 : strOfNums [(b.toNat : Int)] = ⟨#[b]⟩ := by
    simp [strOfNums]
  rw [e1] at hr
  unfold Oper.wp execOp
  simp only [ho, hx, Sem.run_bind, Sem.run_pure, hr, Result.andThen_ok]
  exact h

set_option maxRecDepth 100000 in
set_option maxHeartbeats 8000000 in
theorem once_any (ae : Addr) (x : Raw4) (hx : x.Ok) (at8 by8 : UInt8) (w : World) (xlv : Value) (hl : FRawL w x.l xlv) (hE : Env ae w) :
    Calls Tryd.prog 5 #[.agg #[.int .i64 x.n, xlv], .int .u8 (at8.toNat : Int), .int .u8 (by8.toNat : Int)] w fun e w' => e = .returned (.bool true) ∧ Below w.heap.size w w' := by
  have hr := classOf_right x
  have hnm : ∀ f ∈ (classOf x).l, ∃ j, j < 6 ∧ f.nm = nameN j := fun f hf => fieldsK_names _ 6 f hf
  have hOf := fun W (h : Below w.heap.size w W) => ClassOf_any x hx W xlv (hl.below h)
  generalize classOf x = V at *
  have h8 := ((clsR_iff V).1 hr).2.1
  have HR := Lib.hid (And.intro hr hnm)
  have HE := Lib.hid (fun W (h : Below w.heap.size w W) => hE.below h)
  have HOf := Lib.hid hOf
  obtain ⟨xa, xc, rfl, -⟩ := hl.len
  have B0 := Lib.hid (Kit.below_alloc w (.cells #[.int .i64 x.n, .slice xa x.l.length xc] 24))
  have p1 := Kit.cell_new w #[.int .i64 x.n, .slice xa x.l.length xc] 24 0 rfl
  have p2 := Kit.cell_new w #[.int .i64 x.n, .slice xa x.l.length xc] 24 1 rfl
  have PP := Lib.hid (And.intro p1 p2)
  have hat := at8.toNat_lt
  have hby := by8.toNat_lt
  clear hE hOf hl hx hr hnm p1 p2
  go_enter Tryd.func5, Tryd.ntmps5
  go_wp2_with fail
  refine (examples_any ae _ (HE.out _ B0.out)).mono ?_
  rintro e W1 ⟨rfl, hB⟩
  have p1 := (hB.cell (p := ⟨w.heap.size, 0, none⟩) (Kit.lt_of_cell PP.out.1)).trans PP.out.1
  have p2 := (hB.cell (p := ⟨w.heap.size, 1, none⟩) (Kit.lt_of_cell PP.out.2)).trans PP.out.2
  have B1 := Lib.hid (next B0.out hB)
  clear hB PP B0
  go_wp2_with fail
  refine (HOf.out _ B1.out).mono ?_
  rintro e W2 ⟨⟨lv, rfl, hlv, -⟩, hB⟩
  have B2 := Lib.hid (next B1.out hB)
  clear hB p1 p2 B1 HOf
  have hbox := BxC.new W2 V lv hlv
  by_cases h0 : V.l = []
  · obtain ⟨va, vc, rfl, -⟩ := hlv.len
    have hl0 : V.l.length = 0 := by rw [h0]; rfl
    rw [hl0] at hbox ⊢
    clear hl0 hlv
    have A3 := Lib.hid hbox
    have B3 := Lib.hid (up B2.out (.cells #[.string V.nm, .slice va 0 vc] 27))
    obtain ⟨q1, q2⟩ := A3.out.1
    clear hbox B2
    go_wp2_with fail
    refine (right_cl ae V _ _ _ (Nat.le_refl _) (HE.out _ B3.out) A3.out.2).mono ?_
    rintro e W4 ⟨rfl, hB⟩
    rw [HR.out.1]
    go_wp2
    go_ret
    exact ⟨ret_bool (by simp), next B3.out hB⟩
  obtain ⟨b, o, c, hb, rfl, hlen, hrow⟩ : ∃ b o c, b < W2.heap.size ∧ lv = .slice (some ⟨b, o, none⟩) V.l.length c ∧ V.l.length ≤ maxLen ∧ W2.rangeAt b o (V.l.flatMap cellsFd) := by
    rcases hlv with ⟨h, _⟩ | h
    · exact absurd h h0
    · exact h
  have hz : 0 < V.l.length := List.length_pos_iff.2 h0
  have hA3 : At (W2.alloc (.cells #[.string V.nm, .slice (some ⟨b, o, none⟩) V.l.length c] 27)) W2.heap.size V b o c :=
    ⟨hbox.1.1, hbox.1.2, Val.rangeAt_heap hrow ((Kit.below_alloc W2 _).block b hb), by simp; omega, by omega⟩
  have A3 := Lib.hid hA3
  have B3 := Lib.hid (up B2.out (.cells #[.string V.nm, .slice (some ⟨b, o, none⟩) V.l.length c] 27))
  have q1 := A3.out.c0
  have q2 := A3.out.c1
  have i0 : ((V.l.length : Int) == 0) = false := beq_eq_false_iff_ne.2 (by omega)
  have hklt : at8.toNat % V.l.length < V.l.length := Nat.mod_lt _ hz
  clear hbox B2 hA3 hrow hb hlen h0
  go_upto_region 8 with fail
  generalize W2.alloc (.cells #[.string V.nm, .slice (some ⟨b, o, none⟩) V.l.length c] 27) = W3 at *
  generalize W2.heap.size = bc at *
  rw [show ((at8.toNat : Int) % (V.l.length : Int)) = ((at8.toNat % V.l.length : Nat) : Int) from by push_cast; rfl]
  generalize at8.toNat % V.l.length = k at *
  obtain ⟨f, hf⟩ : ∃ f, V.l[k]? = some f := ⟨_, List.getElem?_eq_getElem hklt⟩
  have HF := Lib.hid hf
  have hki : (k : Int) < (V.l.length : Int) := by omega
  have HJ := Lib.hid (show f.nm.size ≤ 9223372036854775806 from by
    obtain ⟨j, hj, he⟩ := HR.out.2 f (List.mem_of_getElem? HF.out)
    have h1 := nameN_size j
    rw [he]; omega)
  have HS := Lib.hid (fun W (h : Below W3.heap.size W3 W) => And.intro (A3.out.later h).c1 ((A3.out.later h).nm HF.out))
  have HC := Lib.hid (fun W (h : Below W3.heap.size W3 W) => (A3.out.later h).cells)
  obtain ⟨i1, hi0, hz0, hz1, hz2⟩ := info_parts fInfo
  clear hf
  go_upto_region 9 with fail
  have P2 := Lib.hid (CpW.begins W3 V.nm (.slice (some ⟨b, o, none⟩) V.l.length c))
  clear q1 q2
  go_cut [10] from 54 (fun v wx => v = .pointer (some ⟨W3.heap.size, 0, none⟩) ∧ ∃ g cap, Below W3.heap.size W3 wx ∧ At wx W3.heap.size ⟨V.nm, V.l ++ [⟨f.nm, 1, 0, false⟩]⟩ g 0 cap)
  case first =>
    refine wp_region_held_drew (S := fun W => W.cell? ⟨bc, 1, none⟩ = some (.slice (some ⟨b, o, none⟩) V.l.length c) ∧ W.cell? ⟨b, o + k * 4, none⟩ = some (.string f.nm)) (by kernel_rfl) (HS.out _ P2.out.drew.below) (fun hHeld => ?_)
    have P3 := Lib.hid (P2.out.drew)
    clear P2
    generalize (W3.alloc (.cells #[.string V.nm, .slice (some ⟨b, o, none⟩) V.l.length c] 27)).drew = W4 at *
    refine wpAnyH_take (i := 0) (v := .pointer (some ⟨bc, 1, none⟩)) Kit.at0 (by kernel_rfl) (by kernel_rfl) (by kernel_rfl) (fun _ _ _ h => h) (Or.inl ⟨by rfl, fun w hw => ?_⟩) hHeld ?_
    case' refine_1 => obtain ⟨s0, s1⟩ := hw; go_simp
    try simp only [Act.put, List.setIfInBounds_toArray, List.set_cons_zero, List.set_cons_succ]
    refine wpAnyH_take (i := 1) (v := .slice (some ⟨b, o, none⟩) V.l.length c) Kit.at1 (by kernel_rfl) (by kernel_rfl) (by kernel_rfl) (fun _ _ _ h => h) (Or.inl ⟨by rfl, fun w hw => ?_⟩) hHeld ?_
    case' refine_1 => obtain ⟨s0, s1⟩ := hw; go_simp
    try simp only [Act.put, List.setIfInBounds_toArray, List.set_cons_zero, List.set_cons_succ]
    refine wpAnyH_take (i := 3) (v := .pointer (some ⟨bc, 1, none⟩)) Kit.at3 (by kernel_rfl) (by kernel_rfl) (by kernel_rfl) (fun _ _ _ h => h) (Or.inl ⟨by rfl, fun w hw => ?_⟩) hHeld ?_
    case' refine_1 => obtain ⟨s0, s1⟩ := hw; go_simp
    try simp only [Act.put, List.setIfInBounds_toArray, List.set_cons_zero, List.set_cons_succ]
    refine wpAnyH_take (i := 4) (v := .slice (some ⟨b, o, none⟩) V.l.length c) Kit.at4 (by kernel_rfl) (by kernel_rfl) (by kernel_rfl) (fun _ _ _ h => h) (Or.inl ⟨by rfl, fun w hw => ?_⟩) hHeld ?_
    case' refine_1 => obtain ⟨s0, s1⟩ := hw; go_simp
    try simp only [Act.put, List.setIfInBounds_toArray, List.set_cons_zero, List.set_cons_succ]
    refine wpAnyH_take (i := 5) (v := .int .i64 (k : Int)) Kit.at5 (by kernel_rfl) (by kernel_rfl) (by kernel_rfl) (fun _ _ _ h => h) (Or.inl ⟨by rfl, fun w hw => ?_⟩) hHeld ?_
    case' refine_1 => obtain ⟨s0, s1⟩ := hw; go_simp
    try simp only [Act.put, List.setIfInBounds_toArray, List.set_cons_zero, List.set_cons_succ]
    refine wpAnyH_take (i := 6) (v := .pointer (some ⟨b, o + k * 4, none⟩)) Kit.at6 (by kernel_rfl) (by kernel_rfl) (by kernel_rfl) (fun _ _ _ h => h) (Or.inl ⟨by rfl, fun w hw => ?_⟩) hHeld ?_
    case' refine_1 => obtain ⟨s0, s1⟩ := hw; go_simp
    try simp only [Act.put, List.setIfInBounds_toArray, List.set_cons_zero, List.set_cons_succ]
    refine wpAnyH_take (i := 7) (v := .pointer (some ⟨b, o + k * 4, none⟩)) Kit.at7 (by kernel_rfl) (by kernel_rfl) (by kernel_rfl) (fun _ _ _ h => h) (Or.inl ⟨by rfl, fun w hw => ?_⟩) hHeld ?_
    case' refine_1 => obtain ⟨s0, s1⟩ := hw; go_simp
    try simp only [Act.put, List.setIfInBounds_toArray, List.set_cons_zero, List.set_cons_succ]
    refine wpAnyH_take (i := 8) (v := .string f.nm) Kit.at8 (by kernel_rfl) (by kernel_rfl) (by kernel_rfl) (fun _ _ _ h => h) (Or.inl ⟨by rfl, fun w hw => ?_⟩) hHeld ?_
    case' refine_1 => obtain ⟨s0, s1⟩ := hw; go_simp
    try simp only [Act.put, List.setIfInBounds_toArray, List.set_cons_zero, List.set_cons_succ]
    refine wpAnyH_take (i := 9) (v := .agg #[.int .i64 1, .int .i64 0]) Kit.at9 (by kernel_rfl) (by kernel_rfl) (by kernel_rfl) (fun _ _ _ h => h) (Or.inl ⟨by rfl, fun w hw => ?_⟩) hHeld ?_
    case' refine_1 => obtain ⟨s0, s1⟩ := hw; go_simp
    try simp only [Act.put, List.setIfInBounds_toArray, List.set_cons_zero, List.set_cons_succ]
    refine wpAnyH_take (i := 10) (v := .agg #[.string f.nm, .int .i64 1, .int .i64 0, .bool false]) Kit.at10 (by kernel_rfl) (by kernel_rfl) (by kernel_rfl) (fun _ _ _ h => h) (Or.inl ⟨by rfl, fun w hw => ?_⟩) hHeld ?_
    case' refine_1 => obtain ⟨s0, s1⟩ := hw; go_simp
    try simp only [Act.put, List.setIfInBounds_toArray, List.set_cons_zero, List.set_cons_succ]
    refine wpAnyH_ready (rs := [2, 11]) (by kernel_rfl) (by simp) ?_
    refine AllReadyH.cons Kit.at2 (fun K0 hK => ?ta) (AllReadyH.cons Kit.at11 (fun K0 hK => ?tb) AllReadyH.nil)
    case' ta =>
      refine Kit.step_append_own_at rfl _ _ 25 rfl (W3.heap.size + 1) 47 i1 (.agg zeroF.toArray) 4 40 Tryd.underlying25 hi0 hz0 hz1 hz2 rfl (by decide) (.slice none 0 0) 0 [] rfl (World.ownsRow_nil _ _ _ _) ⟨b, o, none⟩ V.l.length c (V.l.flatMap cellsFd) rfl (cellsFds_len _) (HC.out _ P3.out.below) (cellsFds_one _) (by unfold maxLen; omega) (by omega) P3.out.sz ?_
      intro v5 W5 hown5 hg5 _
      have P5 := Lib.hid (P3.out.grow (Kit.Moved.of_grownBy hg5) (fun j hj => by cases hj) hown5)
      clear hown5 hg5 P3
      refine hK.out _ _ (HS.out _ P5.out.below) (fun hHeld => ?_)
      clear hK K0
      try simp only [Act.put, List.setIfInBounds_toArray, List.set_cons_zero, List.set_cons_succ]
      refine wpAnyH_ready (rs := [11]) (by kernel_rfl) (by simp) ?_
      refine AllReadyH.cons Kit.at11 (fun K0 hK => ?_) AllReadyH.nil
      refine Kit.step_buildSlice_one rfl 25 47 _ rfl (cellsFd ⟨f.nm, 1, 0, false⟩) rfl i1 _ Tryd.underlying25 hi0 hz0 (hz1.trans rfl) (by show 4 ≤ _; decide) (by show 0 < 4; decide) ?_
      have P6 := Lib.hid (P5.out.alloc (.cells (cellsFd ⟨f.nm, 1, 0, false⟩).toArray 47))
      have C6 := Lib.hid (newF W5 ⟨f.nm, 1, 0, false⟩)
      clear P5
      refine hK.out _ _ (HS.out _ P6.out.below) (fun hHeld => ?_)
      clear hK K0
      try simp only [Act.put, List.setIfInBounds_toArray, List.set_cons_zero, List.set_cons_succ]
      generalize W5.alloc (.cells (cellsFd ⟨f.nm, 1, 0, false⟩).toArray 47) = W6 at *
      generalize W5.heap.size = T at *
      obtain ⟨P7, C7⟩ : Hid (CpW W3 V.nm (.slice (some ⟨b, o, none⟩) V.l.length c) (0 + V.l.length) ([] ++ V.l.flatMap cellsFd) v5 W6) ∧ Hid (∀ (j : Nat) (u : Value), (cellsFd ⟨f.nm, 1, 0, false⟩)[j]? = some u → W6.cell? ((⟨T, 0, none⟩ : Addr).add j) = some u) := ⟨P6, C6⟩
      clear P6 C6
    case' tb =>
      refine Kit.step_buildSlice_one rfl 25 47 _ rfl (cellsFd ⟨f.nm, 1, 0, false⟩) rfl i1 _ Tryd.underlying25 hi0 hz0 (hz1.trans rfl) (by show 4 ≤ _; decide) (by show 0 < 4; decide) ?_
      have P6 := Lib.hid (P3.out.alloc (.cells (cellsFd ⟨f.nm, 1, 0, false⟩).toArray 47))
      have C6 := Lib.hid (newF W4 ⟨f.nm, 1, 0, false⟩)
      clear P3
      refine hK.out _ _ (HS.out _ P6.out.below) (fun hHeld => ?_)
      clear hK K0
      try simp only [Act.put, List.setIfInBounds_toArray, List.set_cons_zero, List.set_cons_succ]
      have hT4 := World.size_alloc W4 (.cells (cellsFd ⟨f.nm, 1, 0, false⟩).toArray 47)
      generalize W4.alloc (.cells (cellsFd ⟨f.nm, 1, 0, false⟩).toArray 47) = W5 at *
      generalize W4.heap.size = T at *
      refine wpAnyH_ready (rs := [2]) (by kernel_rfl) (by simp) ?_
      refine AllReadyH.cons Kit.at2 (fun K0 hK => ?_) AllReadyH.nil
      refine Kit.step_append_own_at rfl _ _ 25 rfl (W3.heap.size + 1) 47 i1 (.agg zeroF.toArray) 4 40 Tryd.underlying25 hi0 hz0 hz1 hz2 rfl (by decide) (.slice none 0 0) 0 [] rfl (World.ownsRow_nil _ _ _ _) ⟨b, o, none⟩ V.l.length c (V.l.flatMap cellsFd) rfl (cellsFds_len _) (HC.out _ P6.out.below) (cellsFds_one _) (by unfold maxLen; omega) (by omega) P6.out.sz ?_
      intro v5 W6 hown5 hg5 _
      have P7 := Lib.hid (P6.out.grow (Kit.Moved.of_grownBy hg5) (fun j hj => by cases hj) hown5)
      have C7 : Hid (∀ (j : Nat) (u : Value), (cellsFd ⟨f.nm, 1, 0, false⟩)[j]? = some u → W6.cell? ((⟨T, 0, none⟩ : Addr).add j) = some u) := Lib.hid (fun j u hu => by have := C6.out j u hu; rw [Addr.add_mid] at this ⊢; exact Val.cell_moved this (Kit.Moved.of_grownBy hg5) (fun h => by cases h))
      clear hown5 hg5 P6 C6 hT4
      refine hK.out _ _ (HS.out _ P7.out.below) (fun hHeld => ?_)
      clear hK K0
      try simp only [Act.put, List.setIfInBounds_toArray, List.set_cons_zero, List.set_cons_succ]
    all_goals
      rw [Nat.zero_add, List.nil_append] at P7
      refine wpAnyH_ready (rs := [12]) (by kernel_rfl) (by simp) ?_
      refine AllReadyH.cons Kit.at12 (fun K0 hK => ?_) AllReadyH.nil
      refine Kit.step_append_own_at rfl _ _ 25 rfl (W3.heap.size + 1) 47 i1 (.agg zeroF.toArray) 4 40 Tryd.underlying25 hi0 hz0 hz1 hz2 rfl (by decide) v5 V.l.length (V.l.flatMap cellsFd) rfl P7.out.row ⟨T, 0, none⟩ 1 1 (cellsFd ⟨f.nm, 1, 0, false⟩) rfl rfl C7.out (cellsFd_one _) (by unfold maxLen; omega) (by omega) P7.out.sz ?_
      intro v7 W7 hown7 hg7 _
      have P8 := Lib.hid (P7.out.grow (Kit.Moved.of_grownBy hg7) (fun j hj => (P7.out.row.lt j hj).1) hown7)
      clear hown7 hg7 P7 C7
      obtain ⟨g7, cap7, rfl, -, -⟩ := Kit.ownsRow_succ' P8.out.row
      refine hK.out _ _ (HS.out _ P8.out.below) (fun hHeld => ?_)
      clear hK K0
      try simp only [Act.put, List.setIfInBounds_toArray, List.set_cons_zero, List.set_cons_succ]
      refine wpAnyH_take (i := 13) (v := .pointer (some ⟨W3.heap.size, 1, none⟩)) Kit.at13 (by kernel_rfl) (by kernel_rfl) (by kernel_rfl) (fun _ _ _ h => h) (Or.inl ⟨by rfl, fun w hw => ?_⟩) hHeld ?_
      case' refine_1 => obtain ⟨s0, s1⟩ := hw; go_simp
      try simp only [Act.put, List.setIfInBounds_toArray, List.set_cons_zero, List.set_cons_succ]
      refine wpAnyH_ready (rs := [14]) (by kernel_rfl) (by simp) ?_
      refine AllReadyH.cons Kit.at14 (fun K0 hK => ?_) AllReadyH.nil
      have y1 := P8.out.c1
      have y2 := P8.out.cf 1
      go_simp
      have A9 := Lib.hid (P8.out.stored)
      refine hK.out _ _ (HS.out _ A9.out.below) (fun _ => wpAnyH_done (by kernel_rfl) ?_ _)
      clear hK K0 P8 y1 y2
      go_wp2
      go_meet
      exact ⟨rfl, g7, cap7, A9.out.below, A9.out.at (l := V.l ++ [⟨f.nm, 1, 0, false⟩]) (by simp) (by simp) (by simp; omega)⟩
  case rest =>
  obtain ⟨rfl, g1, cap1, hB4, hT4⟩ := hcut
  generalize wc = wd at *
  have A4 := Lib.hid (A3.out.later hB4)
  have T4 := Lib.hid hT4
  have B4 := Lib.hid (next B3.out hB4)
  have HS4 := Lib.hid (fun W (h : Below wd.heap.size wd W) => And.intro (A4.out.later h).c1 ((A4.out.later h).nm HF.out))
  have HC4 := Lib.hid (fun W (h : Below wd.heap.size wd W) => (A4.out.later h).cells)
  clear hB4 hT4 A3 B3 HS HC
  have q1 := A4.out.c0
  have q2 := A4.out.c1
  go_upto_region 11 with fail
  clear q1 q2
  have P4 := Lib.hid (CpW.begins wd V.nm (.slice (some ⟨b, o, none⟩) V.l.length c))
  have q2 := (HS4.out _ P4.out.below).1
  generalize wd.alloc (.cells #[.string V.nm, .slice (some ⟨b, o, none⟩) V.l.length c] 27) = Wp at *
  go_wp2_with (at_builtin; refine wpList_append_own_at _ rfl _ _ 25 rfl (wd.heap.size + 1) 47 i1 (.agg zeroF.toArray) 4 40 Tryd.underlying25 hi0 hz0 hz1 hz2 rfl (by decide) _ _ _ rfl P4.out.row ⟨b, o, none⟩ V.l.length c (V.l.flatMap cellsFd) rfl (cellsFds_len _) (HC4.out _ P4.out.below) (cellsFds_one _) (by unfold maxLen; omega) (by omega) P4.out.sz ?_; intro v5 W5 hown5 hg5 ha5 hb5; clear ha5 hb5; rw [Nat.zero_add, List.nil_append] at hown5; have P5 := Lib.hid (P4.out.grow (Kit.Moved.of_grownBy hg5) (fun j hj => by cases hj) hown5); have y1 := P5.out.c1; have y2 := P5.out.cf 1; obtain ⟨g, cap, rfl⟩ := ownsRow_pos hown5 hz; clear hown5 hg5)
  have P6 := Lib.hid P5.out.stored
  clear P5 P4 y1 y2
  generalize W5.setCell ⟨wd.heap.size, 1, none⟩ (.slice (some ⟨g, 0, none⟩) V.l.length cap) = W6 at *
  have HS6 := Lib.hid (fun W xs (h : CpW wd V.nm (.slice (some ⟨g, 0, none⟩) V.l.length cap) V.l.length xs (.slice (some ⟨g, 0, none⟩) V.l.length cap) W) => And.intro h.c1 (HS4.out W h.below))
  refine wp_region_held_drew (S := fun W => W.cell? ⟨wd.heap.size, 1, none⟩ = some (.slice (some ⟨g, 0, none⟩) V.l.length cap) ∧ W.cell? ⟨bc, 1, none⟩ = some (.slice (some ⟨b, o, none⟩) V.l.length c) ∧ W.cell? ⟨b, o + k * 4, none⟩ = some (.string f.nm)) (by kernel_rfl) (HS6.out _ _ P6.out.drew) (fun hHeld => ?_)
  have P7 := Lib.hid P6.out.drew
  clear P6 q2
  generalize W6.drew = W7 at *
  refine wpAnyH_take (i := 0) (v := .pointer (some ⟨wd.heap.size, 1, none⟩)) Kit.at0 (by kernel_rfl) (by kernel_rfl) (by kernel_rfl) (fun _ _ _ h => h) (Or.inl ⟨by rfl, fun w hw => ?_⟩) hHeld ?_
  case' refine_1 => obtain ⟨s0, s1, s2⟩ := hw; go_simp
  try simp only [Act.put, List.setIfInBounds_toArray, List.set_cons_zero, List.set_cons_succ]
  refine wpAnyH_take (i := 1) (v := .slice (some ⟨g, 0, none⟩) V.l.length cap) Kit.at1 (by kernel_rfl) (by kernel_rfl) (by kernel_rfl) (fun _ _ _ h => h) (Or.inl ⟨by rfl, fun w hw => ?_⟩) hHeld ?_
  case' refine_1 => obtain ⟨s0, s1, s2⟩ := hw; go_simp
  try simp only [Act.put, List.setIfInBounds_toArray, List.set_cons_zero, List.set_cons_succ]
  refine wpAnyH_take (i := 2) (v := .int .i64 (k : Int)) Kit.at2 (by kernel_rfl) (by kernel_rfl) (by kernel_rfl) (fun _ _ _ h => h) (Or.inl ⟨by rfl, fun w hw => ?_⟩) hHeld ?_
  case' refine_1 => obtain ⟨s0, s1, s2⟩ := hw; go_simp
  try simp only [Act.put, List.setIfInBounds_toArray, List.set_cons_zero, List.set_cons_succ]
  refine wpAnyH_take (i := 3) (v := .pointer (some ⟨bc, 1, none⟩)) Kit.at3 (by kernel_rfl) (by kernel_rfl) (by kernel_rfl) (fun _ _ _ h => h) (Or.inl ⟨by rfl, fun w hw => ?_⟩) hHeld ?_
  case' refine_1 => obtain ⟨s0, s1, s2⟩ := hw; go_simp
  try simp only [Act.put, List.setIfInBounds_toArray, List.set_cons_zero, List.set_cons_succ]
  refine wpAnyH_take (i := 4) (v := .slice (some ⟨b, o, none⟩) V.l.length c) Kit.at4 (by kernel_rfl) (by kernel_rfl) (by kernel_rfl) (fun _ _ _ h => h) (Or.inl ⟨by rfl, fun w hw => ?_⟩) hHeld ?_
  case' refine_1 => obtain ⟨s0, s1, s2⟩ := hw; go_simp
  try simp only [Act.put, List.setIfInBounds_toArray, List.set_cons_zero, List.set_cons_succ]
  refine wpAnyH_take (i := 5) (v := .int .i64 (k : Int)) Kit.at5 (by kernel_rfl) (by kernel_rfl) (by kernel_rfl) (fun _ _ _ h => h) (Or.inl ⟨by rfl, fun w hw => ?_⟩) hHeld ?_
  case' refine_1 => obtain ⟨s0, s1, s2⟩ := hw; go_simp
  try simp only [Act.put, List.setIfInBounds_toArray, List.set_cons_zero, List.set_cons_succ]
  refine wpAnyH_take (i := 6) (v := .pointer (some ⟨b, o + k * 4, none⟩)) Kit.at6 (by kernel_rfl) (by kernel_rfl) (by kernel_rfl) (fun _ _ _ h => h) (Or.inl ⟨by rfl, fun w hw => ?_⟩) hHeld ?_
  case' refine_1 => obtain ⟨s0, s1, s2⟩ := hw; go_simp
  try simp only [Act.put, List.setIfInBounds_toArray, List.set_cons_zero, List.set_cons_succ]
  refine wpAnyH_take (i := 7) (v := .pointer (some ⟨b, o + k * 4, none⟩)) Kit.at7 (by kernel_rfl) (by kernel_rfl) (by kernel_rfl) (fun _ _ _ h => h) (Or.inl ⟨by rfl, fun w hw => ?_⟩) hHeld ?_
  case' refine_1 => obtain ⟨s0, s1, s2⟩ := hw; go_simp
  try simp only [Act.put, List.setIfInBounds_toArray, List.set_cons_zero, List.set_cons_succ]
  refine wpAnyH_take (i := 8) (v := .string f.nm) Kit.at8 (by kernel_rfl) (by kernel_rfl) (by kernel_rfl) (fun _ _ _ h => h) (Or.inl ⟨by rfl, fun w hw => ?_⟩) hHeld ?_
  case' refine_1 => obtain ⟨s0, s1, s2⟩ := hw; go_simp
  try simp only [Act.put, List.setIfInBounds_toArray, List.set_cons_zero, List.set_cons_succ]
  refine wpAnyH_take (i := 9) (v := .int .u8 (by8.toNat : Int)) Kit.at9 (by kernel_rfl) (by kernel_rfl) (by kernel_rfl) (fun _ _ _ h => h) (Or.inl ⟨by rfl, fun w hw => ?_⟩) hHeld ?_
  case' refine_1 => obtain ⟨s0, s1, s2⟩ := hw; go_simp
  try simp only [Act.put, List.setIfInBounds_toArray, List.set_cons_zero, List.set_cons_succ]
  refine wpAnyH_ready (rs := [10]) (by kernel_rfl) (by simp) ?_
  refine AllReadyH.cons Kit.at10 (fun K0 hK => ?_) AllReadyH.nil
  go_simp
  have P8 := Lib.hid (P7.out.alloc (.cells #[.int .u8 (by8.toNat : Int)] 5))
  have C8 := Kit.cell_new W7 #[.int .u8 (by8.toNat : Int)] 5 0 rfl
  clear P7
  refine hK.out _ _ (HS6.out _ _ P8.out) (fun hHeld => ?_)
  clear hK K0
  try simp only [Act.put, List.setIfInBounds_toArray, List.set_cons_zero, List.set_cons_succ]
  generalize W7.alloc (.cells #[.int .u8 (by8.toNat : Int)] 5) = W8 at *
  generalize W7.heap.size = T at *
  refine wpAnyH_ready (rs := [11]) (by kernel_rfl) (by simp) ?_
  refine AllReadyH.cons Kit.at11 (fun K0 hK => ?_) AllReadyH.nil
  refine step_convert_byte rfl 50 9 5 _ rfl Tryd.underlying50 Tryd.underlying5 Tryd.underlying9 T 1 by8 rfl C8 ?_
  refine hK.out _ _ (HS6.out _ _ P8.out) (fun hHeld => ?_)
  clear hK K0 C8
  try simp only [Act.put, List.setIfInBounds_toArray, List.set_cons_zero, List.set_cons_succ]
  refine wpAnyH_take (i := 12) (v := .string (f.nm ++ ⟨#[by8]⟩)) Kit.at12 (by kernel_rfl) (by kernel_rfl) (by kernel_rfl) (fun _ _ _ h => h) (Or.inl ⟨by rfl, fun w hw => ?_⟩) hHeld ?_
  case' refine_1 => obtain ⟨s0, s1, s2⟩ := hw; go_simp; exact HJ.out
  try simp only [Act.put, List.setIfInBounds_toArray, List.set_cons_zero, List.set_cons_succ]
  refine wpAnyH_take (i := 13) (v := .pointer (some ⟨g, k * 4, none⟩)) Kit.at13 (by kernel_rfl) (by kernel_rfl) (by kernel_rfl) (fun _ _ _ h => h) (Or.inl ⟨by rfl, fun w hw => ?_⟩) hHeld ?_
  case' refine_1 => obtain ⟨s0, s1, s2⟩ := hw; go_simp
  try simp only [Act.put, List.setIfInBounds_toArray, List.set_cons_zero, List.set_cons_succ]
  refine wpAnyH_take (i := 14) (v := .pointer (some ⟨g, k * 4, none⟩)) Kit.at14 (by kernel_rfl) (by kernel_rfl) (by kernel_rfl) (fun _ _ _ h => h) (Or.inl ⟨by rfl, fun w hw => ?_⟩) hHeld ?_
  case' refine_1 => obtain ⟨s0, s1, s2⟩ := hw; go_simp
  try simp only [Act.put, List.setIfInBounds_toArray, List.set_cons_zero, List.set_cons_succ]
  refine wpAnyH_ready (rs := [15]) (by kernel_rfl) (by simp) ?_
  refine AllReadyH.cons Kit.at15 (fun K0 hK => ?_) AllReadyH.nil
  have y1 : W8.cell? ⟨g, k * 4, none⟩ = some (.string f.nm) := (P8.out.cellAt (j := 0) HF.out rfl).1
  have y2 : W8.frozen? ⟨g, k * 4, none⟩ = false := (P8.out.cellAt (j := 0) HF.out rfl).2
  go_simp
  have P9 := Lib.hid (P8.out.set (k * 4) (.string (f.nm ++ ⟨#[by8]⟩)) (by omega))
  have O9 := Lib.hid (P9.out.at (l := V.l.set k ⟨f.nm ++ ⟨#[by8]⟩, f.k, f.o, f.ix⟩) (cells_set V.l k f ⟨f.nm ++ ⟨#[by8]⟩, f.k, f.o, f.ix⟩ 0 (.string (f.nm ++ ⟨#[by8]⟩)) HF.out rfl (by decide)) (by simp) (by simp; omega))
  refine hK.out _ _ (HS6.out _ _ P9.out) (fun _ => wpAnyH_done (by kernel_rfl) ?_ _)
  clear hK K0 P8 y1 y2 HS6 HC4 HS4
  have A10 := Lib.hid (A4.out.later P9.out.below)
  have T10 := Lib.hid (T4.out.later P9.out.below)
  have B10 := Lib.hid (next B4.out P9.out.below)
  clear P9 A4 T4 B4
  generalize W8.setCell ⟨g, k * 4, none⟩ (.string (f.nm ++ ⟨#[by8]⟩)) = W10 at *
  generalize wd.heap.size = bo at *
  obtain ⟨go, hgo⟩ : ∃ z, z = g := ⟨_, rfl⟩
  obtain ⟨capo, hcapo⟩ : ∃ z, z = cap := ⟨_, rfl⟩
  subst hgo hcapo
  go_upto_region 13 with fail
  go_cut [12] from 92 (fun v wx => v = .bool (nameByte by8.toNat) ∧ wx = W10)
  case first =>
    rcases (show (97 ≤ by8.toNat ∧ by8.toNat ≤ 122) ∨ (122 < by8.toNat ∧ by8.toNat ≤ 255) ∨ (48 ≤ by8.toNat ∧ by8.toNat ≤ 57) ∨ (by8.toNat < 48 ∧ by8.toNat < 49) ∨ (95 ≤ by8.toNat ∧ by8.toNat ≤ 95) ∨ (57 < by8.toNat ∧ by8.toNat < 97 ∧ by8.toNat ≠ 95) by omega) with ⟨h1, h2⟩ | ⟨h1, h2⟩ | ⟨h1, h2⟩ | ⟨h1, h2⟩ | ⟨h1, h2⟩ | ⟨h1, h2, h3⟩
    · have l1 : (97 : Int) ≤ (by8.toNat : Int) := by omega
      have l2 : (by8.toNat : Int) ≤ 122 := by omega
      have HN := Lib.hid (show nameByte by8.toNat = true by unfold nameByte; simp; omega)
      go_wp2
      go_meet
      exact ⟨by rw [HN.out], rfl⟩
    · have l1 : (97 : Int) ≤ (by8.toNat : Int) := by omega
      have l2 : ¬ (by8.toNat : Int) ≤ 122 := by omega
      have l3 : (48 : Int) ≤ (by8.toNat : Int) := by omega
      have l4 : ¬ (by8.toNat : Int) ≤ 57 := by omega
      have l5 : ((by8.toNat : Int) == 95) = false := beq_eq_false_iff_ne.2 (by omega)
      have HN := Lib.hid (show nameByte by8.toNat = false by unfold nameByte; simp; omega)
      go_wp2
      go_meet
      exact ⟨by rw [HN.out], rfl⟩
    · have l1 : ¬ (97 : Int) ≤ (by8.toNat : Int) := by omega
      have l3 : (48 : Int) ≤ (by8.toNat : Int) := by omega
      have l4 : (by8.toNat : Int) ≤ 57 := by omega
      have HN := Lib.hid (show nameByte by8.toNat = true by unfold nameByte; simp; omega)
      go_wp2
      go_meet
      exact ⟨by rw [HN.out], rfl⟩
    · have l1 : ¬ (97 : Int) ≤ (by8.toNat : Int) := by omega
      have l3 : ¬ (48 : Int) ≤ (by8.toNat : Int) := by omega
      have l5 : ((by8.toNat : Int) == 95) = false := beq_eq_false_iff_ne.2 (by omega)
      have HN := Lib.hid (show nameByte by8.toNat = false by unfold nameByte; simp; omega)
      go_wp2
      go_meet
      exact ⟨by rw [HN.out], rfl⟩
    · have l1 : ¬ (97 : Int) ≤ (by8.toNat : Int) := by omega
      have l3 : (48 : Int) ≤ (by8.toNat : Int) := by omega
      have l4 : ¬ (by8.toNat : Int) ≤ 57 := by omega
      have l5 : ((by8.toNat : Int) == 95) = true := beq_iff_eq.2 (by omega)
      have HN := Lib.hid (show nameByte by8.toNat = true by unfold nameByte; simp; omega)
      go_wp2
      go_meet
      exact ⟨by rw [HN.out], rfl⟩
    · have l1 : ¬ (97 : Int) ≤ (by8.toNat : Int) := by omega
      have l3 : (48 : Int) ≤ (by8.toNat : Int) := by omega
      have l4 : ¬ (by8.toNat : Int) ≤ 57 := by omega
      have l5 : ((by8.toNat : Int) == 95) = false := beq_eq_false_iff_ne.2 (by omega)
      have HN := Lib.hid (show nameByte by8.toNat = false by unfold nameByte; simp; omega)
      go_wp2
      go_meet
      exact ⟨by rw [HN.out], rfl⟩
  case rest =>
  obtain ⟨rfl, rfl⟩ := hcut
  generalize wc = W11 at *
  have q1 := A10.out.c0
  have q2 := A10.out.c1
  go_upto_region 15 with fail
  clear q1 q2
  have HS4 := Lib.hid (fun W (h : Below W11.heap.size W11 W) => And.intro (A10.out.later h).c1 ((A10.out.later h).nm HF.out))
  have HC4 := Lib.hid (fun W (h : Below W11.heap.size W11 W) => (A10.out.later h).cells)
  have P4 := Lib.hid (CpW.begins W11 V.nm (.slice (some ⟨b, o, none⟩) V.l.length c))
  have q2 := (HS4.out _ P4.out.below).1
  generalize W11.alloc (.cells #[.string V.nm, .slice (some ⟨b, o, none⟩) V.l.length c] 27) = Wp at *
  go_upto_region 16 with (at_builtin; refine wpList_append_own_at _ rfl _ _ 25 rfl (W11.heap.size + 1) 47 i1 (.agg zeroF.toArray) 4 40 Tryd.underlying25 hi0 hz0 hz1 hz2 rfl (by decide) _ _ _ rfl P4.out.row ⟨b, o, none⟩ V.l.length c (V.l.flatMap cellsFd) rfl (cellsFds_len _) (HC4.out _ P4.out.below) (cellsFds_one _) (by unfold maxLen; omega) (by omega) P4.out.sz ?_; intro v5 W5 hown5 hg5 ha5 hb5; clear ha5 hb5; rw [Nat.zero_add, List.nil_append] at hown5; have P5 := Lib.hid (P4.out.grow (Kit.Moved.of_grownBy hg5) (fun j hj => by cases hj) hown5); have y1 := P5.out.c1; have y2 := P5.out.cf 1; obtain ⟨g, cap, rfl⟩ := ownsRow_pos hown5 hz; clear hown5 hg5)
  have P6 := Lib.hid P5.out.stored
  clear P5 P4 y1 y2
  generalize W5.setCell ⟨W11.heap.size, 1, none⟩ (.slice (some ⟨g, 0, none⟩) V.l.length cap) = W6 at *
  have x1 := P6.out.c1
  obtain ⟨y1, z1⟩ := P6.out.cellAt (j := 1) HF.out rfl
  obtain ⟨y2, z2⟩ := P6.out.cellAt (j := 2) HF.out rfl
  clear q2
  go_upto_region 17 with fail
  have P8 := Lib.hid ((P6.out.set (k * 4 + 1) (.int .i64 5) (by omega)).set (k * 4 + 1 + 1) (.int .i64 1) (by omega))
  clear P6 x1 y1 y2 z1 z2
  generalize (W6.setCell ⟨g, k * 4 + 1, none⟩ (.int .i64 5)).setCell ⟨g, k * 4 + 1 + 1, none⟩ (.int .i64 1) = W8 at *
  have hcs1 := cells_set V.l k f ⟨f.nm, 5, f.o, f.ix⟩ 1 (.int .i64 5) HF.out rfl (by decide)
  have hcs2 := cells_set (V.l.set k ⟨f.nm, 5, f.o, f.ix⟩) k ⟨f.nm, 5, f.o, f.ix⟩ ⟨f.nm, 5, 1, f.ix⟩ 2 (.int .i64 1) (by simp [hklt]) rfl (by decide)
  have hcs3 := cells_set (V.l.set k ⟨f.nm, 5, 1, f.ix⟩) k ⟨f.nm, 5, 1, f.ix⟩ ⟨f.nm, 5, 1, true⟩ 3 (.bool true) (by simp [hklt]) rfl (by decide)
  rw [List.set_set] at hcs2 hcs3
  have P9 : Hid (CpW W11 V.nm (.slice (some ⟨g, 0, none⟩) V.l.length cap) V.l.length ((V.l.set k ⟨f.nm, 5, 1, f.ix⟩).flatMap cellsFd) (.slice (some ⟨g, 0, none⟩) V.l.length cap) W8) := Lib.hid (by rw [← hcs2, ← hcs1]; exact P8.out)
  have HCS := Lib.hid hcs3
  clear P8 hcs1 hcs2 hcs3
  have x1 := P9.out.c1
  obtain ⟨y3, z3⟩ := P9.out.cellAt (j := 3) (k := k) (f := ⟨f.nm, 5, 1, f.ix⟩) (by simp [hklt]) rfl
  go_upto_region 18 with fail
  have P10 := Lib.hid (P9.out.set (k * 4 + 3) (.bool true) (by omega))
  have O10 := Lib.hid (P10.out.at (l := V.l.set k ⟨f.nm, 5, 1, true⟩) HCS.out (by simp) (by simp; omega))
  have A12 := Lib.hid (A10.out.later P10.out.below)
  have T12 := Lib.hid (T10.out.later P10.out.below)
  have O12 := Lib.hid (O9.out.later P10.out.below)
  have B12 := Lib.hid (next B10.out P10.out.below)
  clear HCS P9 P10 x1 y3 z3 A10 T10 O9 B10 HC4 HS4
  generalize W8.setCell ⟨g, k * 4 + 3, none⟩ (.bool true) = W12 at *
  generalize W11.heap.size = bw at *
  obtain ⟨gw, hgw⟩ : ∃ z, z = g := ⟨_, rfl⟩
  obtain ⟨capw, hcapw⟩ : ∃ z, z = cap := ⟨_, rfl⟩
  subst hgw hcapw
  obtain ⟨D, hD, hDl, hDk, hDw, hDf⟩ := once_wide HR.out.1 HF.out
  rw [← hD] at O10
  have HD := Lib.hid (And.intro hDl (And.intro hDk (And.intro hDw hDf)))
  clear hD hDk hDw hDf
  have d1 : D.length ≤ 8 := by omega
  have d2 : k < D.length := by omega
  have d3 : (k : Int) < (D.length : Int) := by omega
  have hzD : 0 < D.length := by omega
  clear hDl
  have q1 := O10.out.c0
  have q2 := O10.out.c1
  go_upto_region 19 with fail
  clear q1 q2
  have HS4 := Lib.hid (fun W (h : Below W12.heap.size W12 W) => And.intro (O10.out.later h).c1 True.intro)
  have HC4 := Lib.hid (fun W (h : Below W12.heap.size W12 W) => (O10.out.later h).cells)
  have P4 := Lib.hid (CpW.begins W12 V.nm (.slice (some ⟨gw, 0, none⟩) D.length capw))
  have q2 := (HS4.out _ P4.out.below).1
  generalize W12.alloc (.cells #[.string V.nm, .slice (some ⟨gw, 0, none⟩) D.length capw] 27) = Wp at *
  go_upto_region 20 with (at_builtin; refine wpList_append_own_at _ rfl _ _ 25 rfl (W12.heap.size + 1) 47 i1 (.agg zeroF.toArray) 4 40 Tryd.underlying25 hi0 hz0 hz1 hz2 rfl (by decide) _ _ _ rfl P4.out.row ⟨gw, 0, none⟩ D.length capw (D.flatMap cellsFd) rfl (cellsFds_len _) (HC4.out _ P4.out.below) (cellsFds_one _) (by unfold maxLen; omega) (by omega) P4.out.sz ?_; intro v5 W5 hown5 hg5 ha5 hb5; clear ha5 hb5; rw [Nat.zero_add, List.nil_append] at hown5; have P5 := Lib.hid (P4.out.grow (Kit.Moved.of_grownBy hg5) (fun j hj => by cases hj) hown5); have y1 := P5.out.c1; have y2 := P5.out.cf 1; obtain ⟨g, cap, rfl⟩ := ownsRow_pos hown5 hzD; clear hown5 hg5)
  have P6 := Lib.hid P5.out.stored
  clear P5 P4 y1 y2
  generalize W5.setCell ⟨W12.heap.size, 1, none⟩ (.slice (some ⟨g, 0, none⟩) D.length cap) = W6 at *
  clear q2
  have x1 := P6.out.c1
  obtain ⟨y3, z3⟩ := P6.out.cellAt (j := 3) HD.out.2.1 rfl
  go_upto_region 21 with fail
  have P10 := Lib.hid (P6.out.set (k * 4 + 3) (.bool false) (by omega))
  have F10 := Lib.hid (P10.out.at (l := D.set k ⟨f.nm, 5, 1, false⟩) (cells_set D k ⟨f.nm, 5, 1, true⟩ ⟨f.nm, 5, 1, false⟩ 3 (.bool false) HD.out.2.1 rfl (by decide)) (by simp) (by simp; omega))
  have A13 := Lib.hid (A12.out.later P10.out.below)
  have T13 := Lib.hid (T12.out.later P10.out.below)
  have O13 := Lib.hid (O12.out.later P10.out.below)
  have I13 := Lib.hid (O10.out.later P10.out.below)
  have B13 := Lib.hid (next B12.out P10.out.below)
  clear P6 P10 x1 y3 z3 A12 T12 O12 O10 B12 HC4 HS4
  generalize W6.setCell ⟨g, k * 4 + 3, none⟩ (.bool false) = W13 at *
  generalize W12.heap.size = bf at *
  obtain ⟨m, place, hro, hfa, hfk, hrt⟩ := once_data HR.out.1 HF.out by8 (HR.out.2 f (List.mem_of_getElem? HF.out))
  have HRO := Lib.hid hro
  have HRT := Lib.hid hrt
  have HFa := Lib.hid (fun W (h : Below W13.heap.size W13 W) => (show Calls Tryd.prog 15 #[.agg #[.string V.nm, .slice (some ⟨b, o, none⟩) V.l.length c], .string (f.nm ++ ⟨#[by8]⟩)] W fun e w' => e = .returned (.tuple #[.int .i64 place, .bool (!m)]) ∧ Below W.heap.size W w' from by
    rw [← hfa]; exact refField_any V (f.nm ++ ⟨#[by8]⟩) W.heap.size W _ (Nat.le_refl _) (A13.out.later h).fd))
  have HFb := Lib.hid (fun W (h : Below W13.heap.size W13 W) => (show Calls Tryd.prog 16 #[.agg #[.string V.nm, .slice (some ⟨b, o, none⟩) V.l.length c], .string f.nm] W fun e w' => e = .returned (.tuple #[.int .i64 (k : Int), .bool true]) ∧ Below W.heap.size W w' from by
    rw [← hfk]; exact field_any V f.nm W.heap.size W _ (Nat.le_refl _) (A13.out.later h).fd))
  have HS13 := Lib.hid (fun W (h : Below W13.heap.size W13 W) => (show W.cell? ⟨bc, 0, none⟩ = some (.string V.nm) ∧ W.cell? ⟨bc, 1, none⟩ = some (.slice (some ⟨b, o, none⟩) V.l.length c) ∧ W.cell? ⟨bo, 1, none⟩ = some (.slice (some ⟨go, 0, none⟩) V.l.length capo) ∧ W.cell? ⟨go, k * 4, none⟩ = some (.string (f.nm ++ ⟨#[by8]⟩)) ∧ W.cell? ⟨b, o + k * 4, none⟩ = some (.string f.nm) from
    ⟨(A13.out.later h).c0, (A13.out.later h).c1, by simpa using (O13.out.later h).c1, by simpa using (O13.out.later h).nm (k := k) (f := ⟨f.nm ++ ⟨#[by8]⟩, f.k, f.o, f.ix⟩) (by simp [hklt]), (A13.out.later h).nm HF.out⟩))
  clear hro hfk hfa hrt
  generalize nameByte by8.toNat = L at *
  obtain ⟨r1, r2, r3, r4, r5⟩ := HS13.out _ (Below.refl _ _)
  go_region_held3 (fun w' => w'.cell? ⟨bc, 0, none⟩ = some (.string V.nm) ∧ w'.cell? ⟨bc, 1, none⟩ = some (.slice (some ⟨b, o, none⟩) V.l.length c) ∧ w'.cell? ⟨bo, 1, none⟩ = some (.slice (some ⟨go, 0, none⟩) V.l.length capo) ∧ w'.cell? ⟨go, k * 4, none⟩ = some (.string (f.nm ++ ⟨#[by8]⟩)) ∧ w'.cell? ⟨b, o + k * 4, none⟩ = some (.string f.nm))
    (first
      | exact ⟨r1, r2, r3, r4, r5⟩
      | exact HS13.out _ ((Below.refl _ _).drew.trans hB3))
    (first
      | (go_at_call 15; refine (HFa.out _ (Below.refl _ _).drew).mono ?_; rintro e w3 ⟨rfl, hB3⟩))
  have B3 := Lib.hid ((Below.refl _ _).drew.trans hB3)
  have B3' : Below W13.heap.size W13 w3 := B3.out
  clear r1 r2 r3 r4 r5 hB3 B3 HFa
  have B3 := Lib.hid B3'
  clear B3'
  obtain ⟨r1, r2, r3, r4, r5⟩ := HS13.out _ B3.out
  go_upto_region 22 with fail
  go_region_held3 (fun w' => w'.cell? ⟨bc, 0, none⟩ = some (.string V.nm) ∧ w'.cell? ⟨bc, 1, none⟩ = some (.slice (some ⟨b, o, none⟩) V.l.length c) ∧ w'.cell? ⟨bo, 1, none⟩ = some (.slice (some ⟨go, 0, none⟩) V.l.length capo) ∧ w'.cell? ⟨go, k * 4, none⟩ = some (.string (f.nm ++ ⟨#[by8]⟩)) ∧ w'.cell? ⟨b, o + k * 4, none⟩ = some (.string f.nm))
    (first
      | exact ⟨r1, r2, r3, r4, r5⟩
      | exact HS13.out _ (B3.out.drew.trans (hB4.mono B3.out.size)))
    (first
      | (go_at_call 16; refine (HFb.out _ B3.out.drew).mono ?_; rintro e w4 ⟨rfl, hB4⟩))
  have B5 : Below W13.heap.size W13 w4 := B3.out.drew.trans (hB4.mono B3.out.size)
  have A14 := Lib.hid (A13.out.later B5)
  have T14 := Lib.hid (T13.out.later B5)
  have O14 := Lib.hid (O13.out.later B5)
  have I14 := Lib.hid (I13.out.later B5)
  have F14 := Lib.hid (F10.out.later B5)
  have B14 := Lib.hid (next B13.out B5)
  clear B5 hB4 r1 r2 r3 r4 r5 B3 HFb HS13 A13 T13 O13 I13 F10 B13
  have r1 := A14.out.c0
  have r2 := A14.out.c1
  go_wp2_with fail
  refine (right_cl ae V _ _ _ (Nat.le_refl _) (HE.out _ B14.out) A14.out.fd).mono ?_
  rintro e W15 ⟨rfl, hB⟩
  rw [HR.out.1]
  have T15 := Lib.hid (T14.out.later hB)
  have O15 := Lib.hid (O14.out.later hB)
  have I15 := Lib.hid (I14.out.later hB)
  have F15 := Lib.hid (F14.out.later hB)
  have B15 := Lib.hid (next B14.out hB)
  clear hB r1 r2 A14 B14 T14 O14 I14 F14
  have r1 := T15.out.c0
  have r2 := T15.out.c1
  go_wp2_with fail
  refine (right_cl ae ⟨V.nm, V.l ++ [⟨f.nm, 1, 0, false⟩]⟩ _ _ _ (Nat.le_refl _) (HE.out _ B15.out) (by simpa using T15.out.fd)).mono ?_
  rintro e W16 ⟨rfl, hB⟩
  rw [HRT.out]
  have O16 := Lib.hid (O15.out.later hB)
  have I16 := Lib.hid (I15.out.later hB)
  have F16 := Lib.hid (F15.out.later hB)
  have B16 := Lib.hid (next B15.out hB)
  clear hB r1 r2 T15 B15 O15 I15 F15
  have r1 := O16.out.c0
  have r2 := O16.out.c1
  go_wp2_with fail
  refine (right_cl ae ⟨V.nm, V.l.set k ⟨f.nm ++ ⟨#[by8]⟩, f.k, f.o, f.ix⟩⟩ _ _ _ (Nat.le_refl _) (HE.out _ B16.out) (by simpa using O16.out.fd)).mono ?_
  rintro e W17 ⟨rfl, hB⟩
  rw [HRO.out]
  have I17 := Lib.hid (I16.out.later hB)
  have F17 := Lib.hid (F16.out.later hB)
  have B17 := Lib.hid (next B16.out hB)
  clear hB r1 r2 O16 B16 I16 F16
  clear HRO HRT
  cases L <;> cases m
  all_goals
    have r1 := I17.out.c0
    have r2 := I17.out.c1
    go_wp2_with fail
    refine (right_cl ae ⟨V.nm, D⟩ _ _ _ (Nat.le_refl _) (HE.out _ B17.out) I17.out.fd).mono ?_
    rintro e W18 ⟨rfl, hB⟩
    rw [HD.out.2.2.1]
    have F18 := Lib.hid (F17.out.later hB)
    have B18 := Lib.hid (next B17.out hB)
    clear hB r1 r2 I17 B17 F17
    have r1 := F18.out.c0
    have r2 := F18.out.c1
    go_wp2_with fail
    refine (right_cl ae ⟨V.nm, D.set k ⟨f.nm, 5, 1, false⟩⟩ _ _ _ (Nat.le_refl _) (HE.out _ B18.out) (by simpa using F18.out.fd)).mono ?_
    rintro e W19 ⟨rfl, hB⟩
    rw [HD.out.2.2.2]
    have B19 := Lib.hid (next B18.out hB)
    clear hB r1 r2 F18 B18 
    go_wp2
    go_ret
    exact ⟨ret_bool (by simp), B19.out⟩
theorem once_row {w : World} (x : Raw4) (hx : x.Ok) (xlv : Value) (hl : FRawL w x.l xlv) (a b : UInt8) (ae : Addr) (hE : Env ae w) :
    Calls Tryd.prog 5 #[.agg #[.int .i64 x.n, xlv], .int .u8 (a.toNat : Int), .int .u8 (b.toNat : Int)] w fun e w' => e = .returned (.bool true) ∧ Below w.heap.size w w' := once_any ae x hx a b w xlv hl hE
end Go.Proofs.YtafnmbbjnafmlaaDoor.Cls
