/- Layer 4: the same classes; what fits a class. -/
import Derived.Test.YtmobnlofbopbeaaDoorClass4
import Derived.Laws.StructEq
namespace Go.Proofs.YtmobnlofbopbeaaDoor.Cls
open Go.RowKit
open Kit (ret_int ret_bool Moved)
open Val (Env flat bs Vl Rep RepL)

attribute [local go_sem] Oper.semAt_some

theorem field_ext {x y : Fd} : x = y ↔ x.nm.toList = y.nm.toList ∧ x.k = y.k ∧ x.o = y.o ∧ x.ix = y.ix := by
  constructor
  · rintro rfl; exact ⟨rfl, rfl, rfl, rfl⟩
  · rintro ⟨h1, h2, h3, h4⟩
    obtain ⟨n, k, o, b⟩ := x
    obtain ⟨n', k', o', b'⟩ := y
    obtain rfl := Kit.bytes_inj h1
    cases h2; cases h3; cases h4; rfl
theorem run_neq_field (x y : Fd) (w : World) : (binOp .neq 46 (aggFd x) (aggFd y)).run Tryd.prog w = .ok (.bool (!decide (x = y))) w := by
  simp only [field_ext]
  simp [go_sem, Tryd.underlying46, Tryd.underlying44]
  split <;> (try split) <;> (try split) <;> (try split) <;> simp_all
theorem guard_field : Tryd.prog.eqGuardType Tryd.prog.depth 46 = false := by kernel_rfl
theorem run_guard_field (x y : Operand) (f g : Fd) (w : World) : (eqGuard .neq 46 x y (aggFd f) (aggFd g)).run Tryd.prog w = .ok () w := run_eqGuard_agg w .neq 46 x y _ _ guard_field
attribute [local go_sem high] run_neq_field run_guard_field
set_option maxRecDepth 100000 in
set_option maxHeartbeats 2000000 in
theorem equal_any (l m : List Fd) (B : Nat) (w : World) (lv mv : Value) (hB : B ≤ w.heap.size) (hl : FdL B w l lv) (hm : FdL B w m mv) :
    Calls Tryd.prog 36 #[lv, mv] w fun e w' => e = .returned (.bool (decide (l = m))) ∧ Below w.heap.size w w' := by
  obtain ⟨a1, c1, rfl, z1⟩ := hl.len
  obtain ⟨a2, c2, rfl, z2⟩ := hm.len
  unfold maxLen at z1 z2
  have HL := Lib.hid (And.intro hl hm)
  clear hl hm
  by_cases hlen : l.length = m.length
  · have hn : ((l.length : Int) != (m.length : Int)) = false := by simp [hlen]
    go_enter Tryd.func36, Tryd.ntmps36
    go_wp2
    go_loopw [5, 13] (fun _ j wr => ∃ k : Nat, k ≤ l.length ∧ j = .int .i64 k ∧ Below w.heap.size w wr ∧ ∀ i, i < k → l[i]? = m[i]?) (fun _ j _ => l.length - (intOf j).toNat)
    case atStart => exact ⟨0, by omega, rfl, Below.refl _ _, by omega⟩
    case round =>
      obtain ⟨k, hk, rfl, hBw, hz⟩ := hrel
      have HZ := Lib.hid hz; clear hz
      have hsz := hBw.size
      by_cases hlt : k < l.length
      · obtain ⟨x, hx⟩ : ∃ x, l[k]? = some x := ⟨_, List.getElem?_eq_getElem (by omega)⟩
        obtain ⟨y, hy⟩ : ∃ y, m[k]? = some y := ⟨_, List.getElem?_eq_getElem (by omega)⟩
        obtain ⟨b1, o1, d1, e1, hb1, p0, p1, p2, p3⟩ := (HL.out.1.below hBw hB).at hx
        obtain ⟨b2, o2, d2, e2, hb2, q0, q1, q2, q3⟩ := (HL.out.2.below hBw hB).at hy
        cases e1; cases e2
        have i1 : (0 : Int) ≤ (k : Int) := by omega
        have i2 : (k : Int) < (l.length : Int) := by omega
        have i3 : (k : Int) < (m.length : Int) := by omega
        have HXY := Lib.hid (And.intro hx hy)
        clear hx hy
        go_upto_region 6 with fail
        go_quiet (fail)
        by_cases hxy : x = y
        · have hd : decide (x = y) = true := decide_eq_true hxy
          rw [hd]
          go_wp2
          go_roundw
          case rel =>
            refine ⟨k + 1, by omega, by go_num, Kit.bdN hBw _, fun i hi => ?_⟩
            rcases Nat.lt_or_ge i k with h | h
            · exact HZ.out i h
            · obtain rfl : i = k := by omega
              rw [HXY.out.1, HXY.out.2, hxy]
          case measure => simp [intOf]; omega
        · have hd : decide (x = y) = false := decide_eq_false hxy
          rw [hd]
          have HN := Lib.hid (show decide (l = m) = false from decide_eq_false (fun e => hxy (by have h1 := HXY.out.1; rw [e, HXY.out.2] at h1; exact (Option.some.inj h1).symm)))
          clear hxy
          go_wp2
          go_ret
          exact ⟨ret_bool HN.out.symm, Kit.bdN hBw _⟩
      · have hkl : k = l.length := by omega
        subst hkl
        have HN := Lib.hid (show decide (l = m) = true from decide_eq_true (List.ext_getElem? fun i => by
          rcases Nat.lt_or_ge i l.length with h | h
          · exact HZ.out i h
          · rw [List.getElem?_eq_none h, List.getElem?_eq_none (by omega)]))
        go_wp2
        go_ret
        exact ⟨ret_bool HN.out.symm, hBw⟩
  · have hn : ((l.length : Int) != (m.length : Int)) = true := by simp; omega
    have HN := Lib.hid (show decide (l = m) = false from decide_eq_false (fun e => hlen (by rw [e])))
    clear hlen
    go_enter Tryd.func36, Tryd.ntmps36
    go_wp2
    go_ret
    exact ⟨ret_bool HN.out.symm, Below.refl _ _⟩

/-- Are all parts of two classes the same? -/
def sameC (a b : Cl) : Bool := (a.nm.toList == b.nm.toList) && decide (a.l = b.l)
theorem sameC_iff {a b : Cl} : sameC a b = true ↔ a = b := by
  unfold sameC
  rw [Bool.and_eq_true, beq_iff_eq, decide_eq_true_iff]
  constructor
  · rintro ⟨h1, h2⟩
    obtain ⟨n, l⟩ := a
    obtain ⟨n', l'⟩ := b
    obtain rfl := Kit.bytes_inj h1
    cases h2; rfl
  · rintro rfl; exact ⟨rfl, rfl⟩

set_option maxRecDepth 100000 in
set_option maxHeartbeats 1000000 in
theorem same_cl (a b : Cl) (B : Nat) (w : World) (lv mv : Value) (hB : B ≤ w.heap.size) (hl : FdL B w a.l lv) (hm : FdL B w b.l mv) :
    Calls Tryd.prog 17 #[.agg #[.string a.nm, lv], .agg #[.string b.nm, mv]] w fun e w' => e = .returned (.bool (sameC a b)) ∧ Below w.heap.size w w' := by
  obtain ⟨a1, c1, rfl, z1⟩ := hl.len
  obtain ⟨a2, c2, rfl, z2⟩ := hm.len
  have B0 := Lib.hid (Kit.below_alloc2 w (.cells #[.string a.nm, .slice a1 a.l.length c1] 27) (.cells #[.string b.nm, .slice a2 b.l.length c2] 27))
  have HQ := Lib.hid (equal_any a.l b.l B _ _ _ (by have := B0.out.size; omega) (hl.below B0.out hB) (hm.below B0.out hB))
  clear hl hm
  unfold sameC
  cases h : a.nm.toList == b.nm.toList
  · rw [Bool.false_and]
    go_enter Tryd.func17, Tryd.ntmps17
    go_wp2
    go_ret
    exact ⟨rfl, B0.out⟩
  · rw [Bool.true_and]
    go_enter Tryd.func17, Tryd.ntmps17
    go_wp2_with fail
    refine HQ.out.mono ?_; rintro e w1 ⟨rfl, hB1⟩
    go_wp2
    go_ret
    exact ⟨rfl, B0.out.trans (hB1.mono B0.out.size)⟩

/-- Does a value not fit its field? -/
def misfit (p : Fd × Vl) : Bool := !Val.fitsV p.2 p.1.k p.1.o
/-- What Check tells. -/
def checkC (c : Cl) (l : List Vl) : Int × Int :=
  if clsR c = false then (0, 40) else if l.length ≠ c.l.length then (min (l.length : Int) (c.l.length : Int), 42)
  else if firstOf misfit (c.l.zip l) 0 < 0 then (0, 0) else (firstOf misfit (c.l.zip l) 0, 42)

/-- vv is the list l, or a part of one that is empty. -/
def RepW (B : Nat) (w : World) (l : List Vl) (vv : Value) : Prop := RepL B w l vv ∨ (l = [] ∧ ∃ a c, vv = .slice a 0 c)
theorem RepW.len {B : Nat} {w : World} {l : List Vl} {vv : Value} (h : RepW B w l vv) : ∃ a c, vv = .slice a l.length c ∧ l.length ≤ maxLen := by
  rcases h with h | ⟨rfl, a, c, h⟩
  · exact h.len
  · exact ⟨a, c, h, Nat.zero_le _⟩
theorem RepW.below {B n : Nat} {w w' : World} {l : List Vl} {vv : Value} (h : RepW B w l vv) (hb : Below n w w') (hB : B ≤ n) : RepW B w' l vv := h.imp (·.below hb hB) id
theorem RepW.mono {B B' : Nat} {w : World} {l : List Vl} {vv : Value} (h : RepW B w l vv) (hB : B ≤ B') : RepW B' w l vv := h.imp (·.mono hB) id
theorem RepW.at {B : Nat} {w : World} {l : List Vl} {vv : Value} (h : RepW B w l vv) {i : Nat} {x : Vl} (hx : l[i]? = some x) :
    ∃ b o c lw, vv = .slice (some ⟨b, o, none⟩) l.length c ∧ b < B ∧ (w.cell? ⟨b, o + i * 4, none⟩ = some (.int .i64 x.k) ∧ w.cell? ⟨b, o + i * 4 + 1, none⟩ = some (.int .i64 x.n) ∧ w.cell? ⟨b, o + i * 4 + 2, none⟩ = some (.string x.s) ∧ w.cell? ⟨b, o + i * 4 + 3, none⟩ = some lw) ∧ RepL B w x.l lw := by
  rcases h with h | ⟨rfl, _⟩
  · exact h.at hx
  · simp at hx

set_option maxRecDepth 100000 in
set_option maxHeartbeats 4000000 in
/-- Check, also of a part of a list that is empty. -/
theorem check_anyW (ae : Addr) (c : Cl) (l : List Vl) (hf : ∀ y ∈ l, y.fits) (B : Nat) (w : World) (lv vv : Value) (hB : B ≤ w.heap.size) (hE : Env ae w) (hl : FdL B w c.l lv) (hv : RepW B w l vv) :
    Calls Tryd.prog 9 #[.agg #[.string c.nm, lv], vv] w fun e w' => e = .returned (.tuple #[.int .i64 (checkC c l).1, .int .i64 (checkC c l).2]) ∧ Below w.heap.size w w' := by
  obtain ⟨a1, c1, rfl, z1⟩ := hl.len
  obtain ⟨a2, c2, rfl, z2⟩ := hv.len
  unfold maxLen at z1 z2
  have B0 := Lib.hid (Kit.below_alloc w (.cells #[.string c.nm, .slice a1 c.l.length c1] 27))
  have P0 := Lib.hid (And.intro (Kit.cell_new w #[.string c.nm, .slice a1 c.l.length c1] 27 0 rfl) (Kit.cell_new w #[.string c.nm, .slice a1 c.l.length c1] 27 1 rfl))
  have HR := Lib.hid (right_cl ae c B _ _ (by have := B0.out.size; omega) (hE.below B0.out) (hl.below B0.out hB))
  have HE := Lib.hid (And.intro hE (And.intro hl (And.intro hv (And.intro hB hf))))
  clear hE hl hv hf
  go_enter Tryd.func9, Tryd.ntmps9
  go_wp2_with fail
  refine HR.out.mono ?_; rintro e w1 ⟨rfl, hB1⟩
  have B1 := Lib.hid (B0.out.trans (hB1.mono B0.out.size))
  have P1 := Lib.hid (And.intro ((hB1.cell (p := ⟨w.heap.size, 0, none⟩) (Kit.lt_of_cell P0.out.1)).trans P0.out.1) ((hB1.cell (p := ⟨w.heap.size, 1, none⟩) (Kit.lt_of_cell P0.out.2)).trans P0.out.2))
  clear hB1 B0 P0 HR
  obtain ⟨p0, p1⟩ := P1.out
  cases h1 : clsR c
  · go_wp2
    go_ret2
    exact ⟨by unfold checkC; rw [if_pos h1]; rfl, B1.out⟩
  · have H1 := Lib.hid (show ¬ clsR c = false by rw [h1]; simp)
    clear h1
    by_cases hn : l.length = c.l.length
    · have hni : ((l.length : Int) != (c.l.length : Int)) = false := by simp [hn]
      have HC := Lib.hid (show checkC c l = if firstOf misfit (c.l.zip l) 0 < 0 then (0, 0) else (firstOf misfit (c.l.zip l) 0, 42) by unfold checkC; rw [if_neg H1.out, if_neg (by simpa using hn)])
      have hz1 : w.heap.size < w1.heap.size := Kit.lt_of_cell P1.out.1
      go_wp2
      go_loopw [6, 7, 26] (fun _ _ j wr => ∃ k : Nat, k ≤ c.l.length ∧ j = .int .i64 k ∧ Below w1.heap.size w1 wr ∧ ∀ i q, i < k → (c.l.zip l)[i]? = some q → misfit q = false) (fun _ _ j _ => c.l.length - (intOf j).toNat)
      case atStart => exact ⟨0, by omega, rfl, Below.refl _ _, by omega⟩
      case round =>
        obtain ⟨k, hk, rfl, hBr, hz⟩ := hrel
        have HZ := Lib.hid hz; clear hz p0 p1
        have hsz := hBr.size
        have hBW := B1.out.trans (hBr.mono B1.out.size)
        have HF := Lib.hid (firstOf_at misfit (c.l.zip l) 0 k (by simp; omega) HZ.out)
        by_cases hlt : k < c.l.length
        · obtain ⟨y, hy⟩ : ∃ y, c.l[k]? = some y := ⟨_, List.getElem?_eq_getElem (by omega)⟩
          obtain ⟨v, hv⟩ : ∃ v, l[k]? = some v := ⟨_, List.getElem?_eq_getElem (by omega)⟩
          obtain ⟨b1, o1, d1, e1, hb1, q0, q1, q2, q3⟩ := (HE.out.2.1.below hBW HE.out.2.2.2.1).at hy
          cases e1
          obtain ⟨b2, o2, d2, lw, e2, hb2, ⟨r0, r1, r2, r3⟩, hlw⟩ := (HE.out.2.2.1.below hBW HE.out.2.2.2.1).at hv
          cases e2
          obtain ⟨a3, c3, rfl, z3⟩ := hlw.len
          have i1 : (0 : Int) ≤ (k : Int) := by omega
          have i2 : (k : Int) < (c.l.length : Int) := by omega
          have i3 : (k : Int) < (l.length : Int) := by omega
          have HQ := Lib.hid (show (c.l.zip l)[k]? = some (y, v) by rw [List.getElem?_zip_eq_some]; exact ⟨hy, hv⟩)
          have hBa := Kit.below_alloc wr (.cells #[.string y.nm, .int .i64 y.k, .int .i64 y.o, .bool y.ix] 46)
          have B2 := Lib.hid (hBW.trans (hBa.mono hBW.size))
          have B12 := Lib.hid (hBr.trans (hBa.mono hsz))
          have R2 := Lib.hid ((Val.rep_in hlw).below hBa (by have := hBW.size; have := HE.out.2.2.2.1; omega))
          have HX := Lib.hid (fun W (h : Below (wr.alloc (.cells #[.string y.nm, .int .i64 y.k, .int .i64 y.o, .bool y.ix] 46)).heap.size (wr.alloc (.cells #[.string y.nm, .int .i64 y.k, .int .i64 y.o, .bool y.ix] 46)) W) => Val.fits_any ae v (HE.out.2.2.2.2 v (List.mem_of_getElem? hv)) y.k y.o B W _ (by have := h.size; have := B2.out.size; have := HE.out.2.2.2.1; omega) (HE.out.1.below (B2.out.trans (h.mono B2.out.size))) (R2.out.below h (by have := B2.out.size; have := HE.out.2.2.2.1; omega)))
          have s0 := Kit.cell_kept (.cells #[.string y.nm, .int .i64 y.k, .int .i64 y.o, .bool y.ix] 46) r0
          have s1 := Kit.cell_kept (.cells #[.string y.nm, .int .i64 y.k, .int .i64 y.o, .bool y.ix] 46) r1
          have s2 := Kit.cell_kept (.cells #[.string y.nm, .int .i64 y.k, .int .i64 y.o, .bool y.ix] 46) r2
          have s3 := Kit.cell_kept (.cells #[.string y.nm, .int .i64 y.k, .int .i64 y.o, .bool y.ix] 46) r3
          have t1 := Kit.cell_new wr #[.string y.nm, .int .i64 y.k, .int .i64 y.o, .bool y.ix] 46 1 rfl
          have t2 := Kit.cell_new wr #[.string y.nm, .int .i64 y.k, .int .i64 y.o, .bool y.ix] 46 2 rfl
          have HX2 := Lib.hid (HX.out _ ((Below.refl _ _).drew))
          clear hy hv hlw z3 R2 HX hBa
          have h1 := Lib.hid (And.intro s0 (And.intro s1 (And.intro s2 (And.intro s3 (And.intro t1 t2)))))
          clear r0 r1 r2 r3 s0 s1 s2 s3 t1 t2
          go_upto_region 8 with fail
          obtain ⟨s0, s1, s2, s3, t1, t2⟩ := h1.out
          clear h1 q0 q1 q2 q3
          generalize wr.alloc (.cells #[.string y.nm, .int .i64 y.k, .int .i64 y.o, .bool y.ix] 46) = W0 at *
          go_region_held3 (fun w' => w'.cell? ⟨b2, o2 + k * 4, none⟩ = some (.int .i64 v.k) ∧ w'.cell? ⟨b2, o2 + k * 4 + 1, none⟩ = some (.int .i64 v.n) ∧ w'.cell? ⟨b2, o2 + k * 4 + 2, none⟩ = some (.string v.s) ∧ w'.cell? ⟨b2, o2 + k * 4 + 3, none⟩ = some (.slice a3 v.l.length c3) ∧ w'.cell? ⟨wr.heap.size, 1, none⟩ = some (.int .i64 y.k) ∧ w'.cell? ⟨wr.heap.size, 2, none⟩ = some (.int .i64 y.o))
            (first
              | exact ⟨s0, s1, s2, s3, t1, t2⟩
              | exact ⟨(hB3.cell (p := ⟨b2, o2 + k * 4, none⟩) (Kit.lt_of_cell s0)).trans s0, (hB3.cell (p := ⟨b2, o2 + k * 4 + 1, none⟩) (Kit.lt_of_cell s1)).trans s1, (hB3.cell (p := ⟨b2, o2 + k * 4 + 2, none⟩) (Kit.lt_of_cell s2)).trans s2, (hB3.cell (p := ⟨b2, o2 + k * 4 + 3, none⟩) (Kit.lt_of_cell s3)).trans s3, (hB3.cell (p := ⟨wr.heap.size, 1, none⟩) (Kit.lt_of_cell t1)).trans t1, (hB3.cell (p := ⟨wr.heap.size, 2, none⟩) (Kit.lt_of_cell t2)).trans t2⟩)
            (first
              | (go_at_call 20; refine HX2.out.mono ?_; rintro e w3 ⟨rfl, hB3⟩))
          have hB0 := (B12.out.drew).trans (hB3.mono B12.out.size)
          have hBE := (B2.out.drew).trans (hB3.mono B2.out.size)
          cases hc : Val.fitsV v y.k y.o
          · have hm : misfit (y, v) = true := by unfold misfit; rw [hc]; rfl
            have hfo : firstOf misfit (c.l.zip l) 0 = (k : Int) := by
              rw [HF.out, List.drop_eq_getElem_cons (by simp; omega), firstOf, (List.getElem?_eq_some_iff.1 HQ.out).2, hm]
              simp
            have HCC := Lib.hid (show checkC c l = ((k : Int), 42) by rw [HC.out, hfo, if_neg (by omega)])
            clear hc hm hfo
            go_wp2
            go_ret2
            exact ⟨by rw [HCC.out]; rfl, hBE⟩
          · have HM := Lib.hid (show misfit (y, v) = false by unfold misfit; rw [hc]; rfl)
            clear hc
            go_wp2
            go_roundw
            case rel =>
              refine ⟨k + 1, by omega, by go_num, hB0, fun i a hi ha => ?_⟩
              rcases Nat.lt_or_ge i k with h | h
              · exact HZ.out i a h ha
              · obtain rfl : i = k := by omega
                rw [HQ.out] at ha; cases ha
                exact HM.out
            case measure => simp [intOf]; omega
        · have hkl : k = c.l.length := by omega
          subst hkl
          have hc0 : firstOf misfit (c.l.zip l) 0 = -1 := by rw [HF.out, List.drop_eq_nil_of_le (by simp; omega)]; rfl
          have HCC := Lib.hid (show checkC c l = (0, 0) by rw [HC.out, hc0]; rfl)
          clear hc0
          go_wp2
          go_ret2
          exact ⟨by rw [HCC.out]; rfl, hBW⟩
    · have hni : ((l.length : Int) != (c.l.length : Int)) = true := by simp; omega
      have HC := Lib.hid (show checkC c l = (min (l.length : Int) (c.l.length : Int), 42) by unfold checkC; rw [if_neg H1.out, if_pos (by simpa using hn)])
      clear hn
      go_wp2
      go_ret2
      exact ⟨by rw [HC.out]; rfl, B1.out⟩
/-- Check. -/
theorem check_any (ae : Addr) (c : Cl) (l : List Vl) (hf : ∀ y ∈ l, y.fits) (B : Nat) (w : World) (lv vv : Value) (hB : B ≤ w.heap.size) (hE : Env ae w) (hl : FdL B w c.l lv) (hv : RepL B w l vv) :
    Calls Tryd.prog 9 #[.agg #[.string c.nm, lv], vv] w fun e w' => e = .returned (.tuple #[.int .i64 (checkC c l).1, .int .i64 (checkC c l).2]) ∧ Below w.heap.size w w' := check_anyW ae c l hf B w lv vv hB hE hl (.inl hv)
end Go.Proofs.YtmobnlofbopbeaaDoor.Cls
