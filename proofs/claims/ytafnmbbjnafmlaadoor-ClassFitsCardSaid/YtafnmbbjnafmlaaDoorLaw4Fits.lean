/- Layer 4's laws: ClassFits. -/
import Derived.Test.YtafnmbbjnafmlaaDoorLaw4Ex
import Derived.Test.YtafnmbbjnafmlaaDoorLaw4FitN
import Derived.Deep.QuietTactic
namespace Go.Proofs.YtafnmbbjnafmlaaDoor.Cls
open Go.RowKit
open Kit (ret_int ret_bool Moved)
open Val (Env flat bs Vl Rep RepL cellsF zero4 vInfo3 zeroV isRefK)

attribute [local go_sem] Oper.semAt_some

/-- What is read of a field's type. -/
theorem At.ty {W : World} {bc b o c : Nat} {V : Cl} (h : At W bc V b o c) {k : Nat} {f : Fd} (hk : V.l[k]? = some f) : W.cell? ⟨b, o + k * 4 + 1, none⟩ = some (.int .i64 f.k) ∧ W.cell? ⟨b, o + k * 4 + 2, none⟩ = some (.int .i64 f.o) := by
  have h1 := h.row (k * 4 + 1) _ (cells_at V.l k f hk 1 _ rfl)
  have h2 := h.row (k * 4 + 2) _ (cells_at V.l k f hk 2 _ rfl)
  simp only [← Nat.add_assoc] at h1 h2
  exact ⟨h1, h2⟩

theorem CpV.at {w : World} {ps : List (Vl × Value)} {g cap : Nat} {W : World} (h : CpV w ps g cap W) {i : Nat} {p : Vl × Value} (hp : ps[i]? = some p) :
    (W.cell? ⟨g, i * 4, none⟩ = some (.int .i64 p.1.k) ∧ W.cell? ⟨g, i * 4 + 1, none⟩ = some (.int .i64 p.1.n) ∧ W.cell? ⟨g, i * 4 + 2, none⟩ = some (.string p.1.s) ∧ W.cell? ⟨g, i * 4 + 3, none⟩ = some p.2) ∧ ∀ j, W.frozen? ⟨g, j, none⟩ = false := by
  have h1 := h.pl.at hp
  simp only [Nat.zero_add] at h1
  exact ⟨h1, fun j => Kit.ownsRow_frozen h.row rfl j⟩
/-- One value of the copy is another one. -/
theorem CpV.put {w : World} {ps : List (Vl × Value)} {g cap : Nat} {W : World} (h : CpV w ps g cap W) {i : Nat} {x : Vl × Value} (z : Vl) (lz : Value) (hx : ps[i]? = some x) (hy : RepL w.heap.size w z.l lz) :
    CpV w (ps.set i (z, lz)) g cap ((((W.setCell ⟨g, i * 4, none⟩ (.int .i64 z.k)).setCell ⟨g, i * 4 + 1, none⟩ (.int .i64 z.n)).setCell ⟨g, i * 4 + 2, none⟩ (.string z.s)).setCell ⟨g, i * 4 + 3, none⟩ lz) := h.set (y := (z, lz)) hx hy
theorem CpV.begins {w w' : World} {ps : List (Vl × Value)} {vb vo vc : Nat} {v : Value} {n : Nat} (hP : PL w ps vb vo vc) (hn : ps.length = n) (h0 : 0 < n) (hg : w.grownBy w' none) (hown : w'.ownsRow w.heap.size 31 4 v (0 + n) ([] ++ ps.flatMap cellsP)) : ∃ g cap, v = .slice (some ⟨g, 0, none⟩) n cap ∧ CpV w ps g cap w' := by
  rw [Nat.zero_add, List.nil_append] at hown
  obtain ⟨g, cap, rfl⟩ := ownsRow_pos hown h0
  subst hn
  exact ⟨g, cap, rfl, hown, (Kit.Moved.of_grownBy hg).below (fun j hj => by cases hj) (Nat.le_refl _), fun p hp => hP.each p hp⟩
theorem CpV.rep {w : World} {ps : List (Vl × Value)} {g cap : Nat} {W : World} (h : CpV w ps g cap W) {n : Nat} (hn : ps.length = n) (h0 : 0 < n) {vs : List Vl} (hv : ps.map (·.1) = vs) : RepL W.heap.size W vs (.slice (some ⟨g, 0, none⟩) n cap) := by
  subst hn hv
  exact h.pl.rep h0
theorem CpW.rename {w : World} {nm : ByteArray} {cv : Value} {n : Nat} {xs : List Value} {lv : Value} {W : World} (h : CpW w nm cv n xs lv W) (nm' : ByteArray) : CpW w nm' cv n xs lv (W.setCell ⟨w.heap.size, 0, none⟩ (.string nm')) := by
  have hz := h.sz
  have hm : Moved (fun j => j = w.heap.size) W (W.setCell ⟨w.heap.size, 0, none⟩ (.string nm')) := Moved.setCell _ _ _ _ rfl
  exact ⟨World.cell?_setCell_same _ _ _ h.c0, (World.cell?_setCell_other _ _ _ _ (by simp)).trans h.c1, fun i => (World.frozen?_setCell _ _ _ _).trans (h.cf i), Kit.ownsRow_kept h.row fun j hj => hm.block j (h.row.lt j hj).2 (by have := (h.row.lt j hj).1; omega), h.below.trans (hm.below (fun k hk => by omega) (by omega)), Nat.le_trans hz hm.size⟩
abbrev aggT (K O : Int) : Value := .agg #[.int .i64 K, .int .i64 O]
/-- Are two types unlike? -/
def neqT (K O K2 O2 : Int) : Bool := !decide (K = K2 ∧ O = O2)
theorem run_neq_type (K O K2 O2 : Int) (w : World) : (binOp .neq 45 (aggT K O) (aggT K2 O2)).run Tryd.prog w = .ok (.bool (neqT K O K2 O2)) w := by
  unfold neqT
  simp [go_sem, Tryd.underlying45]
  split <;> (try split) <;> simp_all
theorem guard_type : Tryd.prog.eqGuardType Tryd.prog.depth 45 = false := by kernel_rfl
theorem run_guard_type (x y : Operand) (K O K2 O2 : Int) (w : World) : (eqGuard .neq 45 x y (aggT K O) (aggT K2 O2)).run Tryd.prog w = .ok () w := run_eqGuard_agg w .neq 45 x y _ _ guard_type
attribute [local go_sem high] run_neq_type run_guard_type

set_option maxRecDepth 100000 in
set_option maxHeartbeats 8000000 in
theorem fits4_any (ae : Addr) (x : Raw4) (hx : x.Ok) (l : List Int) (hlb : ∀ y ∈ l, -9223372036854775808 ≤ y ∧ y ≤ 9223372036854775807) (i8 k8 : UInt8) (w : World) (xlv lv : Value) (hl : FRawL w x.l xlv) (hi : IntsL w l lv) (hE : Env ae w) :
    Calls Tryd.prog 4 #[.agg #[.int .i64 x.n, xlv], lv, .int .u8 (i8.toNat : Int), .int .u8 (k8.toNat : Int)] w fun e w' => e = .returned (.bool true) ∧ Below w.heap.size w w' := by
  have hr := classOf_right x
  have hnm : ∀ f ∈ (classOf x).l, ∃ j, j < 6 ∧ f.nm = nameN j := fun f hf => fieldsK_names _ 6 f hf
  have hOf := fun W (h : Below w.heap.size w W) => ClassOf_any x hx W xlv (hl.below h)
  generalize classOf x = V at *
  have h8 := ((clsR_iff V).1 hr).2.1
  have HR := Lib.hid (And.intro hr hnm)
  have HE := Lib.hid (fun W (h : Below w.heap.size w W) => hE.below h)
  have HOf := Lib.hid hOf
  have HI := Lib.hid (fun W (h : Below w.heap.size w W) => hi.below h)
  have HV := Lib.hid (fun W (h : Below w.heap.size w W) cv (hc : FdL W.heap.size W V.l cv) => valsOf_any V (fun f hf => by obtain ⟨i, hi⟩ := List.getElem?_of_mem hf; exact cls_ty hr hi) h8 l hlb 4 (by decide) W cv lv hc (hi.below h))
  have HC := Lib.hid (fun (c : Cl) (vs : List Vl) (hs : ∀ y ∈ vs, y.fits) W (h : Below w.heap.size w W) cv vv (hc : FdL W.heap.size W c.l cv) (hv : RepL W.heap.size W vs vv) => check_any ae c vs hs W.heap.size W cv vv (Nat.le_refl _) (hE.below h) hc hv)
  obtain ⟨xa, xc, rfl, -⟩ := hl.len
  obtain ⟨la, lc, rfl, -⟩ := hi.len
  have B0 := Lib.hid (Kit.below_alloc w (.cells #[.int .i64 x.n, .slice xa x.l.length xc] 24))
  have p1 := Kit.cell_new w #[.int .i64 x.n, .slice xa x.l.length xc] 24 0 rfl
  have p2 := Kit.cell_new w #[.int .i64 x.n, .slice xa x.l.length xc] 24 1 rfl
  have PP := Lib.hid (And.intro p1 p2)
  have hii := i8.toNat_lt
  have hkk := k8.toNat_lt
  clear hE hOf hl hi hx hr hnm p1 p2 hlb
  go_enter Tryd.func4, Tryd.ntmps4
  go_wp2_with fail
  refine (examples_any ae _ (HE.out _ B0.out)).mono ?_
  rintro e W1 ⟨rfl, hB⟩
  have p1 := (hB.cell (p := ⟨w.heap.size, 0, none⟩) (Kit.lt_of_cell PP.out.1)).trans PP.out.1
  have p2 := (hB.cell (p := ⟨w.heap.size, 1, none⟩) (Kit.lt_of_cell PP.out.2)).trans PP.out.2
  have B1 := Lib.hid (next B0.out hB)
  clear hB PP B0
  go_wp2_with fail
  refine (HOf.out _ B1.out).mono ?_
  rintro e W2 ⟨⟨cv, rfl, hcv, -⟩, hB⟩
  obtain ⟨va, vc, rfl, -⟩ := hcv.len
  have A2 := Lib.hid (BxC.new W2 V _ hcv)
  have B2 := Lib.hid (up (next B1.out hB) (.cells #[.string V.nm, .slice va V.l.length vc] 27))
  clear hB hcv p1 p2 B1 HOf
  obtain ⟨p1, p2⟩ := A2.out.1
  go_wp2_with fail
  refine (HV.out _ B2.out _ A2.out.2).mono ?_
  rintro e W3 ⟨⟨ov, rfl, hov, -⟩, hB⟩
  have A3 := Lib.hid (A2.out.later hB)
  have B3 := Lib.hid (next B2.out hB)
  have O3 := Lib.hid hov
  clear hB hov p1 p2 A2 B2
  obtain ⟨oa, oc, rfl, -⟩ := O3.out.len
  obtain ⟨p1, p2⟩ := A3.out.1
  go_wp2_with fail
  refine (HC.out V _ (vals_sz V.l l 4) _ B3.out _ _ A3.out.2 O3.out).mono ?_
  rintro e W4 ⟨rfl, hB⟩
  rw [fits_vals HR.out.1 l 4 (by decide)]
  have A4 := Lib.hid (A3.out.later hB)
  have B4 := Lib.hid (next B3.out hB)
  have O4 := Lib.hid ((O3.out.below hB (Nat.le_refl _)).mono hB.size)
  clear hB p1 p2 A3 B3 O3
  generalize W2.heap.size = bc at *
  by_cases h0 : V.l = []
  · obtain ⟨p1, p2⟩ := A4.out.1
    have hl0 : V.l.length = 0 := by rw [h0]; rfl
    rw [hl0] at p2
    clear hl0 h0
    go_wp2
    go_ret
    exact ⟨ret_bool (by simp), B4.out⟩
  have hz : 0 < V.l.length := List.length_pos_iff.2 h0
  obtain ⟨b, o, c, he, hA⟩ : ∃ b o c, Value.slice va V.l.length vc = .slice (some ⟨b, o, none⟩) V.l.length c ∧ At W4 bc V b o c := by
    rcases A4.out.2 with ⟨h, _⟩ | ⟨b, o, c, h1, h2, h3, h4⟩
    · exact absurd h h0
    · refine ⟨b, o, c, h2, A4.out.1.1, ?_, h4, h1, by omega⟩
      rw [← h2]; exact A4.out.1.2
  cases he
  obtain ⟨ps, vb, vo, vcp, hps, hov, hP⟩ := pl_of O4.out (fun h => by have := congrArg List.length h; rw [valsOf_len] at this; simp at this; exact h0 this)
  have hpl : ps.length = V.l.length := by rw [← valsOf_len V.l l 4, ← hps, List.length_map]
  rw [valsOf_len, hpl] at hov
  cases hov
  have A5 := Lib.hid hA
  have P5 := Lib.hid hP
  have HPS := Lib.hid (And.intro hps hpl)
  have hil : i8.toNat % V.l.length < V.l.length := Nat.mod_lt _ hz
  have hkl : k8.toNat % V.l.length < V.l.length := Nat.mod_lt _ hz
  clear h0 hA hP hps hpl A4 O4
  have p1 := A5.out.c0
  have p2 := A5.out.c1
  have i0 : ((V.l.length : Int) == 0) = false := beq_eq_false_iff_ne.2 (by omega)
  go_upto_region 12 with fail
  rw [valsOf_len, show ((i8.toNat : Int) % (V.l.length : Int)) = ((i8.toNat % V.l.length : Nat) : Int) from by push_cast; rfl, show ((k8.toNat : Int) % (V.l.length : Int)) = ((k8.toNat % V.l.length : Nat) : Int) from by push_cast; rfl]
  generalize i8.toNat % V.l.length = a at *
  generalize k8.toNat % V.l.length = d at *
  obtain ⟨f, hf⟩ : ∃ f, V.l[a]? = some f := ⟨_, List.getElem?_eq_getElem hil⟩
  obtain ⟨g, hg⟩ : ∃ g, V.l[d]? = some g := ⟨_, List.getElem?_eq_getElem hkl⟩
  have HF := Lib.hid (And.intro hf hg)
  have ha1 : (a : Int) < (V.l.length : Int) := by omega
  have hd1 : (d : Int) < (V.l.length : Int) := by omega
  obtain ⟨i1, hi0, hz0, hz1, hz2⟩ := info_parts vInfo3
  have Z0 : Hid (ZJ W4 V.l 0 (.slice none 0 0) W4) := Lib.hid ⟨World.ownsRow_nil _ _ _ _, fun _ => rfl, Below.refl _ _⟩
  clear hf hg p1 p2 i0
  go_wp2_with fail
  go_loopw [17, 18] (fun zv j wr => ∃ k : Nat, k ≤ V.l.length ∧ j = .int .i64 k ∧ ZJ W4 V.l k zv wr) (fun _ j _ => V.l.length - (intOf j).toNat)
  case atStart => exact ⟨0, by omega, rfl, Z0.out⟩
  case round =>
    obtain ⟨k, hk, rfl, hJ⟩ := hrel
    obtain ⟨za, zc, rfl⟩ := hJ.slice
    have J1 := Lib.hid hJ
    have A6 := Lib.hid (A5.out.later hJ.below)
    clear Z0 hJ
    by_cases hlt : k < V.l.length
    · have j1 : (k : Int) < (V.l.length : Int) := by omega
      obtain ⟨q, hq⟩ : ∃ q, V.l[k]? = some q := ⟨_, List.getElem?_eq_getElem hlt⟩
      have HQ := Lib.hid hq
      have p1 := A6.out.c0
      have p2 := A6.out.c1
      obtain ⟨t1, t2⟩ := A6.out.ty hq
      obtain ⟨z, hz⟩ : ∃ z, z = zeroV q.k q.o := ⟨_, rfl⟩
      have hzz := fun W => Val.zero_any q.k q.o W
      have hzc := zero_cells q.k q.o
      rw [← hz] at hzz hzc
      have HZ := Lib.hid (And.intro hz hzc)
      have HZA := Lib.hid hzz
      clear hq hz hzc hzz
      go_wp2_with fail
      refine (HZA.out _).mono ?_; rintro e W5 ⟨rfl, hB5⟩
      have J2 := Lib.hid (J1.out.later hB5)
      have J3 := Lib.hid (J2.out.later (Kit.below_alloc W5 (.cells #[.int .i64 z.k, .int .i64 0, .string ⟨#[]⟩, .slice none 0 0] 31)))
      have C3 := Lib.hid (show ∀ (j : Nat) (u : Value), (cellsF z)[j]? = some u → (W5.alloc (.cells #[.int .i64 z.k, .int .i64 0, .string ⟨#[]⟩, .slice none 0 0] 31)).cell? ((⟨W5.heap.size, 0, none⟩ : Addr).add j) = some u from fun j u hu => by
        rw [HZ.out.2.1] at hu
        rw [Addr.add_mid]
        exact Kit.cell_new W5 _ _ (0 + j) (by rw [Nat.zero_add, ← Array.getElem?_toList]; exact hu))
      clear J1 J2 hB5 p1 p2 t1 t2 A6
      go_upto_region 15 with (at_builtin; refine wpList_append_own_at _ rfl _ _ 29 rfl W4.heap.size 31 i1 (.agg zero4.toArray) 4 56 Tryd.underlying29 hi0 hz0 hz1 hz2 rfl (by decide) _ _ _ rfl J3.out.row ⟨W5.heap.size, 0, none⟩ 1 1 (cellsF z) rfl (Val.cellsF_len z) C3.out (Val.cellsF_one z) (by unfold maxLen; omega) (by omega) J3.out.below.size ?_; intro v6 W6 hown6 hg6 hn6 hat6; have J6 := Lib.hid (J3.out.push HQ.out hg6 (by rw [← HZ.out.1]; exact hown6)); clear hown6 hg6 hn6 hat6 J3 C3)
      go_wp2
      go_roundw
      case rel => exact ⟨k + 1, by omega, by go_num, J6.out⟩
      case measure => simp [intOf]; omega
    · have hkk2 : k = V.l.length := by omega
      subst hkk2
      have j1 : ¬ (V.l.length : Int) < (V.l.length : Int) := by omega
      have P6 := Lib.hid (P5.out.later J1.out.below)
      have B6 := Lib.hid (next B4.out J1.out.below)
      have Z6 := Lib.hid J1.out.rep
      have p1 := A6.out.c0
      have p2 := A6.out.c1
      clear J1 A5 P5 B4
      go_wp2_with fail
      refine (HC.out V _ (zeros_sz V.l) _ B6.out _ _ A6.out.fd Z6.out).mono ?_
      rintro e W7 ⟨rfl, hB⟩
      rw [fits_zeros HR.out.1]
      have A7 := Lib.hid (A6.out.later hB)
      have P7 := Lib.hid (P6.out.later hB)
      have B7 := Lib.hid (next B6.out hB)
      clear hB p1 p2 A6 P6 B6 Z6
      obtain ⟨pa, hpa⟩ : ∃ p, ps[a]? = some p := ⟨_, List.getElem?_eq_getElem (by have := HPS.out.2; omega)⟩
      obtain ⟨⟨zd, ld⟩, hpd⟩ : ∃ p, ps[d]? = some p := ⟨_, List.getElem?_eq_getElem (by have := HPS.out.2; omega)⟩
      obtain ⟨da, dc, rfl⟩ : ∃ da dc, ld = .slice da zd.l.length dc := by
        obtain ⟨da, dc, h, -⟩ := (P7.out.each _ (List.mem_of_getElem? hpd)).len
        exact ⟨da, dc, h⟩
      have hzd : zd = valF g.k g.o (nOf l d) 4 := by
        have h1 : (ps.map (·.1))[d]? = some zd := by rw [List.getElem?_map, hpd]; rfl
        rw [HPS.out.1, valsOf_at HF.out.2] at h1
        exact (Option.some.inj h1).symm
      have HZD := Lib.hid hzd
      clear hzd
      have HPA := Lib.hid (And.intro hpa hpd)
      clear hpa hpd
      go_upto_region 19 with (at_builtin; refine wpList_append_own_at _ rfl _ _ 29 rfl W7.heap.size 31 i1 (.agg zero4.toArray) 4 56 Tryd.underlying29 hi0 hz0 hz1 hz2 rfl (by decide) (.slice none 0 0) 0 [] rfl (World.ownsRow_nil _ _ _ _) ⟨vb, vo, none⟩ V.l.length oc (ps.flatMap cellsP) rfl (by rw [cellsP_len, HPS.out.2]) P7.out.cells (cellsPs_one P7.out) (by unfold maxLen; omega) (by omega) (Nat.le_refl _) ?_; intro v8 W8 hown8 hg8 hn8 hat8; clear hn8 hat8; obtain ⟨ng, nc, rfl, hcp⟩ := CpV.begins P7.out HPS.out.2 hz hg8 hown8; have n8 := Lib.hid hcp; clear hown8 hg8 hcp)
      obtain ⟨⟨y0, y1, y2, y3⟩, yf⟩ := n8.out.at HPA.out.1
      have z0 := yf (a * 4)
      have z1 := yf (a * 4 + 1)
      have z2 := yf (a * 4 + 2)
      have z3 := yf (a * 4 + 3)
      clear yf
      go_upto_region 20 with fail
      have n9 : Hid (CpV W7 (ps.set a (flat 0 0 ⟨#[]⟩, .slice none 0 0)) ng nc ((((W8.setCell ⟨ng, a * 4, none⟩ (.int .i64 0)).setCell ⟨ng, a * 4 + 1, none⟩ (.int .i64 0)).setCell ⟨ng, a * 4 + 2, none⟩ (.string ⟨#[]⟩)).setCell ⟨ng, a * 4 + 3, none⟩ (.slice none 0 0))) := Lib.hid (n8.out.put (flat 0 0 ⟨#[]⟩) (.slice none 0 0) HPA.out.1 (.inl ⟨rfl, rfl⟩))
      clear n8 y0 y1 y2 y3 z0 z1 z2 z3
      generalize (((W8.setCell ⟨ng, a * 4, none⟩ (.int .i64 0)).setCell ⟨ng, a * 4 + 1, none⟩ (.int .i64 0)).setCell ⟨ng, a * 4 + 2, none⟩ (.string ⟨#[]⟩)).setCell ⟨ng, a * 4 + 3, none⟩ (.slice none 0 0) = W9 at *
      have A9 := Lib.hid (A7.out.later n9.out.below)
      have P9 := Lib.hid (P7.out.later n9.out.below)
      have B9 := Lib.hid (next B7.out n9.out.below)
      have R9 := Lib.hid (n9.out.rep (n := V.l.length) (by rw [List.length_set]; exact HPS.out.2) hz (vs := (valsOf V.l l 4).set a (flat 0 0 ⟨#[]⟩)) (by rw [List.map_set, HPS.out.1]))
      clear n9 A7 P7 B7
      have p1 := A9.out.c0
      have p2 := A9.out.c1
      have hrk := fits_none HR.out.1 l 4 (by decide) HF.out.1
      have HCN := HC.out V ((valsOf V.l l 4).set a (flat 0 0 ⟨#[]⟩)) (fun y hy => by
        rcases List.mem_or_eq_of_mem_set hy with h | rfl
        · exact vals_sz V.l l 4 y h
        · exact fits5 _ _) W9 B9.out _ _ A9.out.fd R9.out
      rw [hrk] at HCN
      clear hrk R9
      obtain ⟨K, hK⟩ : ∃ K, K = f.k := ⟨_, rfl⟩
      rw [← hK] at HCN
      have HK := Lib.hid hK
      clear hK
      have HCN2 := Lib.hid HCN
      clear HCN
      have h3 : ((K == 3) = true ∧ isRefK K = true) ∨ ((K == 3) = false ∧ (K == 4) = true ∧ isRefK K = true) ∨ ((K == 3) = false ∧ (K == 4) = false ∧ isRefK K = false) := by
        unfold isRefK
        cases K == 3 <;> cases K == 4 <;> simp
      rcases h3 with ⟨k3, hrk⟩ | ⟨k3, k4, hrk⟩ | ⟨k3, k4, hrk⟩
      all_goals
        rw [hrk] at HCN2
        clear hrk
        go_wp2_with fail
        refine HCN2.out.mono ?_
        rintro e W10 ⟨rfl, hB⟩
        have A10 := Lib.hid (A9.out.later hB)
        have P10 := Lib.hid (P9.out.later hB)
        have B10 := Lib.hid (next B9.out hB)
        clear hB p1 p2 A9 P9 B9 HCN2
        have p1 := A10.out.c0
        have p2 := A10.out.c1
        have t1 : W10.cell? ⟨b, o + a * 4 + 1, none⟩ = some (.int .i64 K) := by rw [HK.out]; exact (A10.out.ty HF.out.1).1
        go_upto_region 23 with (at_builtin; refine wpList_append_own_at _ rfl _ _ 29 rfl W10.heap.size 31 i1 (.agg zero4.toArray) 4 56 Tryd.underlying29 hi0 hz0 hz1 hz2 rfl (by decide) (.slice none 0 0) 0 [] rfl (World.ownsRow_nil _ _ _ _) ⟨vb, vo, none⟩ V.l.length oc (ps.flatMap cellsP) rfl (by rw [cellsP_len, HPS.out.2]) P10.out.cells (cellsPs_one P10.out) (by unfold maxLen; omega) (by omega) (Nat.le_refl _) ?_; intro v8 W8 hown8 hg8 hn8 hat8; clear hn8 hat8; obtain ⟨mg, mc, rfl, hcp⟩ := CpV.begins P10.out HPS.out.2 hz hg8 hown8; have m8 := Lib.hid hcp; clear hown8 hg8 hcp)
        obtain ⟨⟨y0, y1, y2, y3⟩, yf⟩ := m8.out.at HPA.out.1
        have z0 := yf (a * 4)
        have z1 := yf (a * 4 + 1)
        have z2 := yf (a * 4 + 2)
        have z3 := yf (a * 4 + 3)
        obtain ⟨x0, x1, x2, x3⟩ : W8.cell? ⟨vb, vo + d * 4, none⟩ = some (.int .i64 zd.k) ∧ W8.cell? ⟨vb, vo + d * 4 + 1, none⟩ = some (.int .i64 zd.n) ∧ W8.cell? ⟨vb, vo + d * 4 + 2, none⟩ = some (.string zd.s) ∧ W8.cell? ⟨vb, vo + d * 4 + 3, none⟩ = some (.slice da zd.l.length dc) := (P10.out.later m8.out.below).at HPA.out.2
        clear yf p1 p2 t1
        go_upto_region 24 with fail
        have m9 : Hid (CpV W10 (ps.set a (zd, .slice da zd.l.length dc)) mg mc ((((W8.setCell ⟨mg, a * 4, none⟩ (.int .i64 zd.k)).setCell ⟨mg, a * 4 + 1, none⟩ (.int .i64 zd.n)).setCell ⟨mg, a * 4 + 2, none⟩ (.string zd.s)).setCell ⟨mg, a * 4 + 3, none⟩ (.slice da zd.l.length dc))) := Lib.hid (m8.out.put zd (.slice da zd.l.length dc) HPA.out.1 (P10.out.each _ (List.mem_of_getElem? HPA.out.2)))
        clear m8 y0 y1 y2 y3 z0 z1 z2 z3 x0 x1 x2 x3
        generalize (((W8.setCell ⟨mg, a * 4, none⟩ (.int .i64 zd.k)).setCell ⟨mg, a * 4 + 1, none⟩ (.int .i64 zd.n)).setCell ⟨mg, a * 4 + 2, none⟩ (.string zd.s)).setCell ⟨mg, a * 4 + 3, none⟩ (.slice da zd.l.length dc) = W11 at *
        have A11 := Lib.hid (A10.out.later m9.out.below)
        have P11 := Lib.hid (P10.out.later m9.out.below)
        have B11 := Lib.hid (next B10.out m9.out.below)
        have R11 := Lib.hid (m9.out.rep (n := V.l.length) (by rw [List.length_set]; exact HPS.out.2) hz (vs := (valsOf V.l l 4).set a zd) (by rw [List.map_set, HPS.out.1]))
        clear m9 A10 P10 B10
        have p1 := A11.out.c0
        have p2 := A11.out.c1
        have HCO := HC.out V ((valsOf V.l l 4).set a zd) (fun y hy => by
          rcases List.mem_or_eq_of_mem_set hy with h | rfl
          · exact vals_sz V.l l 4 y h
          · rw [HZD.out]; exact valF_fitsz _ _ _ _) W11 B11.out _ _ A11.out.fd R11.out
        obtain ⟨c1, c2, nt, hc12, hnt⟩ : ∃ (c1 c2 : Int) (nt : Bool), checkC V ((valsOf V.l l 4).set a zd) = (c1, c2) ∧ neqT K f.o g.k g.o = nt ∧ (nt = false → c2 = 0) := by
          refine ⟨(checkC V ((valsOf V.l l 4).set a zd)).1, (checkC V ((valsOf V.l l 4).set a zd)).2, _, rfl, rfl, fun h => ?_⟩
          unfold neqT at h
          simp only [Bool.not_eq_false', decide_eq_true_eq] at h
          rw [HZD.out, fits_other HR.out.1 l 4 (by decide) HF.out.1 HF.out.2 (HK.out ▸ h.1) h.2]
        rw [hc12] at HCO
        have HCO2 := Lib.hid HCO
        have HNT := Lib.hid hnt.2
        have hnt1 := hnt.1
        clear HCO hc12 hnt R11
        go_wp2_with fail
        refine HCO2.out.mono ?_
        rintro e W12 ⟨rfl, hB⟩
        have A12 := Lib.hid (A11.out.later hB)
        have P12 := Lib.hid (P11.out.later hB)
        have B12 := Lib.hid (next B11.out hB)
        clear hB p1 p2 A11 P11 B11 HCO2
        have p1 := A12.out.c0
        have p2 := A12.out.c1
        go_upto_region 26 with fail
        have Q1 := Lib.hid (CpW.begins W12 V.nm (.slice (some ⟨b, o, none⟩) V.l.length vc))
        generalize W12.alloc (.cells #[.string V.nm, .slice (some ⟨b, o, none⟩) V.l.length vc] 27) = W13 at *
        have q0 := Q1.out.c0
        have qf := Q1.out.cf 0
        clear p1 p2
        go_upto_region 27 with fail
        have Q2 := Lib.hid (Q1.out.rename otherNm)
        clear Q1 q0 qf
        generalize W13.setCell ⟨W12.heap.size, 0, none⟩ (.string ⟨#[111, 116, 104, 101, 114]⟩) = W14 at *
        have q2 := (A12.out.later Q2.out.below).c1
        obtain ⟨i2, fi0, fz0, fz1, fz2⟩ := info_parts fInfo
        go_upto_region 28 with (at_builtin; refine wpList_append_own_at _ rfl _ _ 25 rfl (W12.heap.size + 1) 47 i2 (.agg zeroF.toArray) 4 40 Tryd.underlying25 fi0 fz0 fz1 fz2 rfl (by decide) _ _ _ rfl Q2.out.row ⟨b, o, none⟩ V.l.length vc (V.l.flatMap cellsFd) rfl (cellsFds_len _) (A12.out.later Q2.out.below).cells (cellsFds_one _) (by unfold maxLen; omega) (by omega) Q2.out.sz ?_; intro v5 W15 hown5 hg5 ha5 hb5; clear ha5 hb5; rw [Nat.zero_add, List.nil_append] at hown5; have Q3 := Lib.hid (Q2.out.grow (Kit.Moved.of_grownBy hg5) (fun j hj => by cases hj) hown5); have y1 := Q3.out.c1; have y2 := Q3.out.cf 1; obtain ⟨gf, gc, rfl⟩ := ownsRow_pos hown5 hz; clear hown5 hg5)
        have Q4 := Lib.hid Q3.out.stored
        clear Q3 Q2 y1 y2 q2
        generalize W15.setCell ⟨W12.heap.size, 1, none⟩ (.slice (some ⟨gf, 0, none⟩) V.l.length gc) = W16 at *
        have x1 := Q4.out.c1
        have y1 : W16.cell? ⟨gf, a * 4, none⟩ = some (.string f.nm) := (Q4.out.cellAt (j := 0) HF.out.1 rfl).1
        have y2 : W16.frozen? ⟨gf, a * 4, none⟩ = false := (Q4.out.cellAt (j := 0) HF.out.1 rfl).2
        go_upto_region 29 with fail
        have Q5 := Lib.hid (Q4.out.set (a * 4) (.string quiteNew) (by omega))
        have F5 := Lib.hid (Q5.out.at (l := V.l.set a ⟨quiteNew, f.k, f.o, f.ix⟩) (cells_set V.l a f ⟨quiteNew, f.k, f.o, f.ix⟩ 0 (.string quiteNew) HF.out.1 rfl (by decide)) (by simp) (by simp; omega))
        have A17 := Lib.hid (A12.out.later Q5.out.below)
        have P17 := Lib.hid (P12.out.later Q5.out.below)
        have B17 := Lib.hid (next B12.out Q5.out.below)
        clear Q4 Q5 A12 P12 B12 x1 y1 y2
        generalize W16.setCell ⟨gf, a * 4, none⟩ (.string ⟨#[113, 117, 105, 116, 101, 95, 110, 101, 119]⟩) = W17 at *
        have hR := P17.out.rep (by rw [HPS.out.2]; exact hz)
        rw [HPS.out.1, HPS.out.2] at hR
        have R17 := Lib.hid hR
        have p1 := F5.out.c0
        have p2 : W17.cell? ⟨W12.heap.size, 1, none⟩ = some (.slice (some ⟨gf, 0, none⟩) V.l.length gc) := by simpa using F5.out.c1
        clear hR
        go_wp2_with fail
        refine (HC.out ⟨otherNm, V.l.set a ⟨quiteNew, f.k, f.o, f.ix⟩⟩ _ (vals_sz V.l l 4) _ B17.out _ _ (by simpa using F5.out.fd) R17.out).mono ?_
        rintro e W18 ⟨rfl, hB⟩
        rw [fits_renamed HR.out.1 HR.out.2 l 4 (by decide) HF.out.1]
        have A18 := Lib.hid (A17.out.later hB)
        have B18 := Lib.hid (next B17.out hB)
        clear hB p1 p2 A17 B17 P17 R17 F5
        have p2 := A18.out.c1
        have t1 : W18.cell? ⟨b, o + a * 4 + 1, none⟩ = some (.int .i64 K) := by rw [HK.out]; exact (A18.out.ty HF.out.1).1
        have t2 := (A18.out.ty HF.out.1).2
        obtain ⟨u1, u2⟩ := A18.out.ty HF.out.2
        go_upto_region 30 with fail
        have hcc : (nt = true) ∨ (nt = false ∧ c2 = 0) := by
          cases nt
          · exact .inr ⟨rfl, HNT.out rfl⟩
          · exact .inl rfl
        clear HNT
        rcases hcc with rfl | ⟨rfl, rfl⟩
        all_goals
          go_quiet (fail)
          go_wp2
          go_ret
          exact ⟨ret_bool (by simp), Kit.bdN B18.out _⟩
theorem fits4_row {w : World} (x : Raw4) (hx : x.Ok) (xlv : Value) (hl : FRawL w x.l xlv) (l : List Int) (hlb : ∀ y ∈ l, -9223372036854775808 ≤ y ∧ y ≤ 9223372036854775807) (lv : Value) (hi : IntsL w l lv) (i8 k8 : UInt8) (ae : Addr) (hE : Env ae w) :
    Calls Tryd.prog 4 #[.agg #[.int .i64 x.n, xlv], lv, .int .u8 (i8.toNat : Int), .int .u8 (k8.toNat : Int)] w fun e w' => e = .returned (.bool true) ∧ Below w.heap.size w w' := fits4_any ae x hx l hlb i8 k8 w xlv lv hl hi hE
end Go.Proofs.YtafnmbbjnafmlaaDoor.Cls
