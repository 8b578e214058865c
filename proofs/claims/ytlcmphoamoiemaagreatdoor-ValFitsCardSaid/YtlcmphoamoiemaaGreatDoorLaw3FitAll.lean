/- Layer 3's laws: ValType, fit, ValFit, and ValFits. -/
import Derived.Test.YtlcmphoamoiemaaGreatDoorLaw3Odd
import Derived.Test.YtlcmphoamoiemaaGreatDoorValFits
import Derived.Test.YtlcmphoamoiemaaGreatDoorLaw3Awake
import Derived.Deep.RegionHeld
import Derived.Laws.StructEq
section
namespace Go.Proofs.YtlcmphoamoiemaaGreatDoor.Val
open Go.RowKit
open Kit (ret_int ret_bool Moved)

attribute [local go_sem] Oper.semAt_some

/-- The type of raw numbers. -/
def typeK (a : Int) : Int := if pickN a 6 < 4 then 1 + (pickN a 6 : Int) else 5
def typeO (a b : Int) : Int := if pickN a 6 < 4 then 0 else 1 + (pickN b 4 : Int)
theorem type_right (a b : Int) : rightTy (typeK a) (typeO a b) = true := by
  have h6 := pickN_lt a (n := 6) (by decide)
  have h4 := pickN_lt b (n := 4) (by decide)
  unfold typeK typeO rightTy inK
  split
  · rw [if_neg (by omega)]; simp; omega
  · rw [if_pos rfl]; simp; omega
/-- Of raw numbers, what fits a kind. -/
def fitV (k : Int) (x : RawOne) : Vl :=
  if k = 5 then flat 5 0 (bs []) else if k = 3 ∨ k = 4 then (if pickN x.k 4 = 0 then flat 0 0 (bs []) else flat k (1 + (pickN x.n 500 : Int)) (bs [])) else valOne k x.n x.s
theorem fitV_flat (k : Int) (x : RawOne) : (fitV k x).isFlat := by
  unfold fitV
  split
  · rfl
  · split
    · split <;> rfl
    · exact valOne_flat _ _ _

theorem box2_put {W : World} {b : Nat} {u0 u1 : Value} (h0 : W.cell? ⟨b, 0, none⟩ = some u0) (h1 : W.cell? ⟨b, 1, none⟩ = some u1) (v0 v1 : Value) :
    ((W.setCell ⟨b, 0, none⟩ v0).setCell ⟨b, 1, none⟩ v1).cell? ⟨b, 0, none⟩ = some v0 ∧ ((W.setCell ⟨b, 0, none⟩ v0).setCell ⟨b, 1, none⟩ v1).cell? ⟨b, 1, none⟩ = some v1 := by
  constructor <;> simp [go_sem, h0, h1]

set_option maxRecDepth 100000 in
set_option maxHeartbeats 1000000 in
theorem valType_any (a b : Int) (a1 : -9223372036854775808 ≤ a) (a2 : a ≤ 9223372036854775807) (b1 : -9223372036854775808 ≤ b) (b2 : b ≤ 9223372036854775807) (w : World) :
    Calls Tryz.prog 26 #[.int .i64 a, .int .i64 b] w fun e w' => e = .returned (.agg #[.int .i64 (typeK a), .int .i64 (typeO a b)]) ∧ Below w.heap.size w w' := by
  have hPa := pick_any a a1 a2 6 (by decide) (by decide) (w.alloc (.cells #[.int .i64 0, .int .i64 0] 26))
  have hPb := pick_any b b1 b2 4 (by decide) (by decide) (w.alloc (.cells #[.int .i64 0, .int .i64 0] 26))
  have h6 := pickN_lt a (n := 6) (by decide)
  have h4 := pickN_lt b (n := 4) (by decide)
  have B0 := Kit.below_alloc w (.cells #[.int .i64 0, .int .i64 0] 26)
  have y0 := Kit.cell_new w #[.int .i64 0, .int .i64 0] 26 0 rfl
  have y1 := Kit.cell_new w #[.int .i64 0, .int .i64 0] 26 1 rfl
  have f0 := Kit.frozen_new w #[.int .i64 0, .int .i64 0] 26 0
  have f1 := Kit.frozen_new w #[.int .i64 0, .int .i64 0] 26 1
  unfold typeK typeO
  generalize pickN a 6 = K at *
  generalize pickN b 4 = O at *
  have hw1 : IntKind.i64.wrap (1 + (K : Int)) = 1 + (K : Int) := by rw [IntKind.wrap_i64]; omega
  have hw2 : IntKind.i64.wrap (1 + (O : Int)) = 1 + (O : Int) := by rw [IntKind.wrap_i64]; omega
  have hz : w.heap.size < (w.alloc (.cells #[.int .i64 0, .int .i64 0] 26)).heap.size := by simp
  have HP := Lib.hid (And.intro hPa hPb)
  have HB := Lib.hid (And.intro B0 hz)
  clear hPa hPb B0 hz
  have hend : ∀ (v0 v1 : Value), Below w.heap.size w (((w.alloc (.cells #[.int .i64 0, .int .i64 0] 26)).setCell ⟨w.heap.size, 0, none⟩ v0).setCell ⟨w.heap.size, 1, none⟩ v1) := fun v0 v1 =>
    HB.out.1.trans (((Kit.Moved.setCell (fun j => j = w.heap.size) _ ⟨w.heap.size, 0, none⟩ v0 rfl).trans (Kit.Moved.setCell (fun j => j = w.heap.size) _ ⟨w.heap.size, 1, none⟩ v1 rfl) (fun _ _ h => h)).below (fun j hj => by omega) (Nat.le_of_lt HB.out.2))
  have HEnd := Lib.hid hend
  clear hend
  by_cases hk : K < 4
  · rw [if_pos hk, if_pos hk]
    have hk2 : (1 + (K : Int)) < 5 := by omega
    go_enter Tryz.func26, Tryz.ntmps26
    go_upto_region 1 with fail
    generalize w.alloc (.cells #[.int .i64 0, .int .i64 0] 26) = W0 at *
    go_wp2_with fail
    refine HP.out.1.mono ?_; rintro e w1 ⟨rfl, rfl⟩
    go_wp2
    exact bodyPost_ret (v := .agg #[.int .i64 (1 + (K : Int)), .int .i64 0]) (by simp [results, Tryz.results26, go_sem, y0, y1]) rfl ⟨rfl, HEnd.out _ _⟩
  · rw [if_neg hk, if_neg hk]
    have hk2 : ¬ (1 + (K : Int)) < 5 := by omega
    go_enter Tryz.func26, Tryz.ntmps26
    go_upto_region 1 with fail
    generalize w.alloc (.cells #[.int .i64 0, .int .i64 0] 26) = W0 at *
    go_wp2_with fail
    refine HP.out.1.mono ?_; rintro e w1 ⟨rfl, rfl⟩
    go_wp2_with fail
    refine HP.out.2.mono ?_; rintro e w1 ⟨rfl, rfl⟩
    go_wp2
    exact bodyPost_ret (v := .agg #[.int .i64 5, .int .i64 (1 + (O : Int))]) (by simp [results, Tryz.results26, go_sem, y0, y1]) rfl ⟨rfl, HEnd.out _ _⟩

set_option maxRecDepth 100000 in
set_option maxHeartbeats 2000000 in
theorem fit_any (k : Int) (x : RawOne) (hx : x.Ok) (w : World) :
    Calls Tryz.prog 65 #[.int .i64 k, .agg #[.int .i64 x.k, .int .i64 x.n, .string x.s], .int .i64 500] w fun e w' => e = .returned (flatV (fitV k x).k (fitV k x).n (fitV k x).s) ∧ Below w.heap.size w w' := by
  have B0 := Kit.below_alloc2 w (.cells #[.int .i64 x.k, .int .i64 x.n, .string x.s] 67) (.cells #[.int .i64 0, .int .i64 0, .string ⟨#[]⟩, .slice none 0 0] 30)
  have F0 := boxF_new (w.alloc (.cells #[.int .i64 x.k, .int .i64 x.n, .string x.s] 67)) (.int .i64 0) (.int .i64 0) (.string ⟨#[]⟩) (.slice none 0 0) 30
  rw [World.size_alloc] at F0
  have s0 := Kit.cell_kept (.cells #[.int .i64 0, .int .i64 0, .string ⟨#[]⟩, .slice none 0 0] 30) (Kit.cell_new w #[.int .i64 x.k, .int .i64 x.n, .string x.s] 67 0 rfl)
  have s1 := Kit.cell_kept (.cells #[.int .i64 0, .int .i64 0, .string ⟨#[]⟩, .slice none 0 0] 30) (Kit.cell_new w #[.int .i64 x.k, .int .i64 x.n, .string x.s] 67 1 rfl)
  have s2 := Kit.cell_kept (.cells #[.int .i64 0, .int .i64 0, .string ⟨#[]⟩, .slice none 0 0] 30) (Kit.cell_new w #[.int .i64 x.k, .int .i64 x.n, .string x.s] 67 2 rfl)
  have HPk := Lib.hid (fun W => pick_any x.k hx.k1 hx.k2 4 (by decide) (by decide) W)
  have HPn := Lib.hid (fun W => pick_any x.n hx.n1 hx.n2 500 (by decide) (by decide) W)
  have HV := Lib.hid (fun W => valOne_any k x.k x.n x.s hx.n1 hx.n2 hx.s W)
  have h5 := pickN_lt x.n (n := 500) (by decide)
  have HH := Lib.hid (And.intro B0 F0)
  clear B0 hx
  unfold fitV
  generalize pickN x.n 500 = N at *
  generalize pickN x.k 4 = M at *
  have hw1 : IntKind.i64.wrap (1 + (N : Int)) = 1 + (N : Int) := by rw [IntKind.wrap_i64]; omega
  obtain ⟨⟨y0, y1, y2, y3⟩, yf⟩ := F0
  have yf0 := yf 0
  have yf1 := yf 1
  have yf2 := yf 2
  have yf3 := yf 3
  clear yf
  have hz := HH.out.2.c.lt
  have HZ := Lib.hid hz
  clear hz
  have HEnd : Hid (∀ W v0 v1 v2 v3, Below w.heap.size w W → w.heap.size + 1 < W.heap.size → Below w.heap.size w ((((W.setCell ⟨w.heap.size + 1, 0, none⟩ v0).setCell ⟨w.heap.size + 1, 1, none⟩ v1).setCell ⟨w.heap.size + 1, 2, none⟩ v2).setCell ⟨w.heap.size + 1, 3, none⟩ v3)) := Lib.hid fun W v0 v1 v2 v3 h hz => h.trans ((end4b (w.heap.size + 1) W v0 v1 v2 v3).below (fun j hj => by omega) (by omega))
  by_cases h5k : k = 5
  · subst h5k
    rw [if_pos rfl]
    go_enter Tryz.func65, Tryz.ntmps65
    go_upto_region 1 with fail
    generalize (w.alloc (.cells #[.int .i64 x.k, .int .i64 x.n, .string x.s] 67)).alloc (.cells #[.int .i64 0, .int .i64 0, .string ⟨#[]⟩, .slice none 0 0] 30) = W0 at *
    go_wp2
    exact bodyPost_ret (v := flatV 5 0 (bs [])) (by simp [results, Tryz.results65, go_sem, y0, y1, y2, y3]) rfl ⟨rfl, HEnd.out _ _ _ _ _ HH.out.1 HZ.out⟩
  · rw [if_neg h5k]
    have k5 : (k == 5) = false := beq_eq_false_iff_ne.2 h5k
    by_cases h3 : k = 3 ∨ k = 4
    · rw [if_pos h3]
      have hk3 : ((k == 3) = true) ∨ ((k == 3) = false ∧ (k == 4) = true) := by rcases h3 with h | h <;> simp [h]
      clear h5k h3
      by_cases hM : M = 0
      · subst hM
        rw [if_pos rfl]
        rcases hk3 with k3 | ⟨k3, k4⟩
        all_goals
          go_enter Tryz.func65, Tryz.ntmps65
          go_upto_region 1 with fail
          generalize (w.alloc (.cells #[.int .i64 x.k, .int .i64 x.n, .string x.s] 67)).alloc (.cells #[.int .i64 0, .int .i64 0, .string ⟨#[]⟩, .slice none 0 0] 30) = W0 at *
          go_wp2_with fail
          refine (HPk.out _).mono ?_; rintro e w1 ⟨rfl, rfl⟩
          go_wp2
          exact bodyPost_ret (v := flatV 0 0 (bs [])) (by simp [results, Tryz.results65, go_sem, y0, y1, y2, y3]) rfl ⟨rfl, HEnd.out _ _ _ _ _ HH.out.1 HZ.out⟩
      · rw [if_neg hM]
        have hMb : ((M : Int) == 0) = false := beq_eq_false_iff_ne.2 (by omega)
        clear hM
        rcases hk3 with k3 | ⟨k3, k4⟩
        all_goals
          go_enter Tryz.func65, Tryz.ntmps65
          go_upto_region 1 with fail
          generalize (w.alloc (.cells #[.int .i64 x.k, .int .i64 x.n, .string x.s] 67)).alloc (.cells #[.int .i64 0, .int .i64 0, .string ⟨#[]⟩, .slice none 0 0] 30) = W0 at *
          go_wp2_with fail
          refine (HPk.out _).mono ?_; rintro e w1 ⟨rfl, rfl⟩
          go_wp2_with fail
          refine (HPn.out _).mono ?_; rintro e w1 ⟨rfl, rfl⟩
          go_wp2
          exact bodyPost_ret (v := flatV k (1 + (N : Int)) (bs [])) (by simp [results, Tryz.results65, go_sem, y0, y1, y2, y3]) rfl ⟨rfl, HEnd.out _ _ _ _ _ HH.out.1 HZ.out⟩
    · rw [if_neg h3]
      have k3 : (k == 3) = false := beq_eq_false_iff_ne.2 (by omega)
      have k4 : (k == 4) = false := beq_eq_false_iff_ne.2 (by omega)
      clear h5k h3
      go_enter Tryz.func65, Tryz.ntmps65
      go_upto_region 1 with fail
      generalize (w.alloc (.cells #[.int .i64 x.k, .int .i64 x.n, .string x.s] 67)).alloc (.cells #[.int .i64 0, .int .i64 0, .string ⟨#[]⟩, .slice none 0 0] 30) = W0 at *
      go_wp2_with fail
      refine (HV.out _).mono ?_; rintro e w1 ⟨rfl, hB⟩
      have F1 := HH.out.2.moved (Kit.Moved.of_below hB) (by have := HZ.out; omega)
      have B1 := Lib.hid (HH.out.1.trans (hB.mono HH.out.1.size))
      have HZ1 := Lib.hid F1.c.lt
      clear hB y0 y1 y2 y3 yf0 yf1 yf2 yf3 s0 s1 s2
      obtain ⟨⟨y0, y1, y2, y3⟩, yf⟩ := F1
      have yf0 := yf 0
      have yf1 := yf 1
      have yf2 := yf 2
      have yf3 := yf 3
      clear yf
      go_wp2
      exact bodyPost_ret (v := flatV (valOne k x.n x.s).k (valOne k x.n x.s).n (valOne k x.n x.s).s) (by simp [results, Tryz.results65, go_sem, y0, y1, y2, y3]) rfl ⟨rfl, HEnd.out _ _ _ _ _ B1.out HZ1.out⟩
end Go.Proofs.YtlcmphoamoiemaaGreatDoor.Val
end
section
namespace Go.Proofs.YtlcmphoamoiemaaGreatDoor.Val
open Go.RowKit
open Kit (ret_int ret_bool Moved)

attribute [local go_sem] Oper.semAt_some

/-- Of raw numbers, what fits a type. -/
def valFit (K O : Int) (x : Raw) : Vl := .mk (fitV K ⟨x.k, x.n, x.s⟩).k (fitV K ⟨x.k, x.n, x.s⟩).n (fitV K ⟨x.k, x.n, x.s⟩).s (if K = 5 then (x.l.take 12).map (fitV O) else [])

/-- What lies in memory while it is made. -/
structure FJ (w : World) (K O : Int) (x : Raw) (xlv : Value) (V : Vl) (bv : Nat) (k : Nat) (lv : Value) (W : World) : Prop where
  t0 : W.cell? ⟨w.heap.size, 0, none⟩ = some (.int .i64 K)
  t1 : W.cell? ⟨w.heap.size, 1, none⟩ = some (.int .i64 O)
  x3 : W.cell? ⟨w.heap.size + 1, 3, none⟩ = some xlv
  res : BoxF W (w.heap.size + 2) (.int .i64 0) (.int .i64 0) (.string ⟨#[]⟩) (.slice none 0 0)
  v : BoxF W bv (.int .i64 V.k) (.int .i64 V.n) (.string V.s) lv
  row : W.ownsRow (bv + 1) 30 4 lv k (((x.l.take k).map (fitV O)).flatMap cellsF)
  nil : k = 0 → lv = .slice none 0 0
  below : Below w.heap.size w W
  lt : w.heap.size + 2 < bv
  sz : bv + 1 ≤ W.heap.size
theorem FJ.later {w : World} {K O : Int} {x : Raw} {xlv : Value} {V : Vl} {bv k : Nat} {lv : Value} {W W' : World} (h : FJ w K O x xlv V bv k lv W) (hB : Below W.heap.size W W') : FJ w K O x xlv V bv k lv W' := by
  have hz := hB.size
  have hs := h.sz
  have hl := h.lt
  exact ⟨(hB.cell (p := ⟨w.heap.size, 0, none⟩) (Kit.lt_of_cell h.t0)).trans h.t0, (hB.cell (p := ⟨w.heap.size, 1, none⟩) (Kit.lt_of_cell h.t1)).trans h.t1, (hB.cell (p := ⟨w.heap.size + 1, 3, none⟩) (Kit.lt_of_cell h.x3)).trans h.x3, h.res.moved (Kit.Moved.of_below hB) (by omega), h.v.moved (Kit.Moved.of_below hB) (by omega), Kit.ownsRow_kept h.row (fun j hj => hB.block j (h.row.lt j hj).2), h.nil, h.below.trans (hB.mono h.below.size), hl, by omega⟩
theorem FJ.slice {w : World} {K O : Int} {x : Raw} {xlv : Value} {V : Vl} {bv k : Nat} {lv : Value} {W : World} (h : FJ w K O x xlv V bv k lv W) : ∃ a c, lv = .slice a k c := by
  rcases h.row.2 with ⟨h1, h2⟩ | ⟨g, cap, cur, h1, _⟩
  · exact ⟨none, 0, by rw [h1, h2]⟩
  · exact ⟨_, _, h1⟩
/-- One more is appended, and the list set. -/
theorem FJ.push {w : World} {K O : Int} {x : Raw} {xlv : Value} {V : Vl} {bv k : Nat} {lv v' : Value} {W w6 : World} {y : RawOne} (h : FJ w K O x xlv V bv k lv W) (hy : x.l[k]? = some y) (hg : W.grownBy w6 lv.ownBlock)
    (hown : w6.ownsRow (bv + 1) 30 4 v' (k + 1) (((x.l.take k).map (fitV O)).flatMap cellsF ++ cellsF (fitV O y))) : FJ w K O x xlv V bv (k + 1) v' (w6.setCell ⟨bv, 3, none⟩ v') := by
  have hm : Moved (fun j => bv + 1 ≤ j) W w6 := (Kit.Moved.of_grownBy hg).mono fun j _ hj => (h.row.lt j hj).1
  have hms : Moved (fun j => j = bv) w6 (w6.setCell ⟨bv, 3, none⟩ v') := Kit.Moved.setCell _ _ _ _ rfl
  have hmt : Moved (fun j => bv ≤ j) W (w6.setCell ⟨bv, 3, none⟩ v') := (hm.mono (T := fun j => bv ≤ j) (fun j _ hj => by omega)).trans hms (fun j _ hj => by omega)
  have hsz := h.sz
  have hlt := h.lt
  have hz6 := hmt.size
  obtain ⟨hk, he⟩ := List.getElem?_eq_some_iff.1 hy
  refine ⟨cell_moved h.t0 hmt (by omega), cell_moved h.t1 hmt (by omega), cell_moved h.x3 hmt (by omega), h.res.moved hmt (by omega), (h.v.moved hm (by omega)).set3 v', ?_, fun h => by omega, h.below.trans (hmt.below (fun j hj => by omega) (by omega)), hlt, by omega⟩
  rw [List.take_succ_eq_append_getElem hk, List.map_append, List.flatMap_append, he]
  refine Kit.ownsRow_kept (xs := ((x.l.take k).map (fitV O)).flatMap cellsF ++ ([y].map (fitV O)).flatMap cellsF) (by simpa using hown) fun j hj => hms.block j (hown.lt j hj).2 (by have := (hown.lt j hj).1; omega)

def FitPost (w : World) (K O : Int) (x : Raw) (e : Ending) (w' : World) : Prop := (∃ lv, e = .returned (aggV (valFit K O x).k (valFit K O x).n (valFit K O x).s lv) ∧ RepL w'.heap.size w' (valFit K O x).l lv ∧ Fresh w.heap.size lv) ∧ Below w.heap.size w w'

set_option maxRecDepth 100000 in
set_option maxHeartbeats 8000000 in
theorem ValFit_any (K O : Int) (x : Raw) (hx : x.Ok) (w : World) (xlv : Value) (hl : RawL w x.l xlv) :
    Calls Tryz.prog 32 #[.agg #[.int .i64 K, .int .i64 O], .agg #[.int .i64 x.k, .int .i64 x.n, .string x.s, xlv], .int .i64 500] w (FitPost w K O x) := by
  obtain ⟨xa, xc, rfl, xz⟩ := hl.len
  unfold maxLen at xz
  have hV : valFit K O x = .mk (fitV K ⟨x.k, x.n, x.s⟩).k (fitV K ⟨x.k, x.n, x.s⟩).n (fitV K ⟨x.k, x.n, x.s⟩).s (if K = 5 then (x.l.take 12).map (fitV O) else []) := rfl
  have hF := fun W => fit_any K ⟨x.k, x.n, x.s⟩ hx.o W
  generalize fitV K ⟨x.k, x.n, x.s⟩ = V at *
  have HX := Lib.hid (And.intro hx (And.intro hl hV))
  have HF := Lib.hid hF
  have B0 := Lib.hid ((Kit.below_alloc2 w (.cells #[.int .i64 K, .int .i64 O] 26) (.cells #[.int .i64 x.k, .int .i64 x.n, .string x.s, .slice xa x.l.length xc] 24)).trans ((Kit.below_alloc _ (.cells #[.int .i64 0, .int .i64 0, .string ⟨#[]⟩, .slice none 0 0] 30)).mono (by simp; omega)))
  have c0 := Kit.cell_kept (.cells #[.int .i64 0, .int .i64 0, .string ⟨#[]⟩, .slice none 0 0] 30) (Kit.cell_kept (.cells #[.int .i64 x.k, .int .i64 x.n, .string x.s, .slice xa x.l.length xc] 24) (Kit.cell_new w #[.int .i64 K, .int .i64 O] 26 0 rfl))
  have c1 := Kit.cell_kept (.cells #[.int .i64 0, .int .i64 0, .string ⟨#[]⟩, .slice none 0 0] 30) (Kit.cell_kept (.cells #[.int .i64 x.k, .int .i64 x.n, .string x.s, .slice xa x.l.length xc] 24) (Kit.cell_new w #[.int .i64 K, .int .i64 O] 26 1 rfl))
  have d := (Kit.box4_new (w.alloc (.cells #[.int .i64 K, .int .i64 O] 26)) (.int .i64 x.k) (.int .i64 x.n) (.string x.s) (.slice xa x.l.length xc) 24).kept (.cells #[.int .i64 0, .int .i64 0, .string ⟨#[]⟩, .slice none 0 0] 30)
  have r := boxF_new ((w.alloc (.cells #[.int .i64 K, .int .i64 O] 26)).alloc (.cells #[.int .i64 x.k, .int .i64 x.n, .string x.s, .slice xa x.l.length xc] 24)) (.int .i64 0) (.int .i64 0) (.string ⟨#[]⟩) (.slice none 0 0) 30
  simp only [World.size_alloc] at d r
  have HB := Lib.hid (And.intro c0 (And.intro c1 (And.intro d r)))
  obtain ⟨d0, d1, d2, d3⟩ := d
  clear hx hl hV hF r
  obtain ⟨i0, hi0, hz0, hz1, hz2⟩ := info_parts vInfo3
  go_enter Tryz.func32, Tryz.ntmps32
  go_upto_region 1 with fail
  generalize ((w.alloc (.cells #[.int .i64 K, .int .i64 O] 26)).alloc (.cells #[.int .i64 x.k, .int .i64 x.n, .string x.s, .slice xa x.l.length xc] 24)).alloc (.cells #[.int .i64 0, .int .i64 0, .string ⟨#[]⟩, .slice none 0 0] 30) = W0 at *
  go_wp2_with fail
  refine (HF.out _).mono ?_; rintro e W1 ⟨rfl, hB⟩
  have hv := boxF_new W1 (.int .i64 V.k) (.int .i64 V.n) (.string V.s) (.slice none 0 0) 30
  have hA := Kit.below_alloc W1 (.cells #[.int .i64 V.k, .int .i64 V.n, .string V.s, .slice none 0 0] 30)
  have hz := hB.size
  have hr3 := HB.out.2.2.2.c.lt
  have J0 : Hid (FJ w K O x (.slice xa x.l.length xc) V W1.heap.size 0 (.slice none 0 0) (W1.alloc (.cells #[.int .i64 V.k, .int .i64 V.n, .string V.s, .slice none 0 0] 30))) := Lib.hid
    ⟨Kit.cell_kept _ ((hB.cell (p := ⟨w.heap.size, 0, none⟩) (Kit.lt_of_cell HB.out.1)).trans HB.out.1), Kit.cell_kept _ ((hB.cell (p := ⟨w.heap.size, 1, none⟩) (Kit.lt_of_cell HB.out.2.1)).trans HB.out.2.1), Kit.cell_kept _ ((hB.cell (p := ⟨w.heap.size + 1, 3, none⟩) (Kit.lt_of_cell HB.out.2.2.1.2.2.2)).trans HB.out.2.2.1.2.2.2),
     (HB.out.2.2.2.moved (Kit.Moved.of_below hB) (by omega)).alloc _, hv, by simpa using World.ownsRow_nil _ _ _ _, fun _ => rfl, (B0.out.trans (hB.mono B0.out.size)).trans (hA.mono (Nat.le_trans B0.out.size hz)), by omega, by simp⟩
  clear hB hv hA hz hr3 HB c0 c1 d0 d1 d2 d3 HF B0
  go_upto_region 2 with fail
  generalize W1.alloc (.cells #[.int .i64 V.k, .int .i64 V.n, .string V.s, .slice none 0 0] 30) = W2 at *
  generalize W1.heap.size = bv at *
  go_wp2
  go_loopw [8] (fun i wr => ∃ (k : Nat) (lv : Value), k ≤ x.l.length ∧ k ≤ 12 ∧ (k = 0 ∨ K = 5) ∧ i = .int .i64 k ∧ FJ w K O x (.slice xa x.l.length xc) V bv k lv wr) (fun i _ => 12 - (intOf i).toNat)
  case atStart => exact ⟨0, _, by omega, by omega, .inl rfl, rfl, J0.out⟩
  case round =>
    obtain ⟨k, lv, hkl, hk12, hk5, rfl, hJ⟩ := hrel
    obtain ⟨a1, c1, rfl⟩ := hJ.slice
    have J1 := Lib.hid hJ
    have u0 := hJ.t0
    have u3 := hJ.x3
    clear J0 hJ
    by_cases hc : k < x.l.length ∧ k < 12 ∧ K = 5
    · obtain ⟨hlt, h12, hK5⟩ := hc
      have HK5 := Lib.hid hK5
      have k5 : (K == 5) = true := by simp [hK5]
      obtain ⟨y, hy0⟩ : ∃ y, x.l[k]? = some y := ⟨_, List.getElem?_eq_getElem hlt⟩
      have hy := HX.out.1.l y (List.mem_of_getElem? hy0)
      have HY := Lib.hid hy0
      obtain ⟨rb, ro, rc, hre, hrr⟩ : ∃ rb ro rc, (Value.slice xa x.l.length xc = .slice (some ⟨rb, ro, none⟩) x.l.length rc) ∧ ∀ W, Below w.heap.size w W → W.cell? ⟨rb, ro + k * 3, none⟩ = some (.int .i64 y.k) ∧ W.cell? ⟨rb, ro + k * 3 + 1, none⟩ = some (.int .i64 y.n) ∧ W.cell? ⟨rb, ro + k * 3 + 2, none⟩ = some (.string y.s) := by
        rcases HX.out.2.1 with ⟨h1, _⟩ | ⟨b, o, c, h1, _, _⟩
        · rw [h1] at hlt; simp at hlt
        · refine ⟨b, o, c, h1, fun W hW => ?_⟩
          rcases HX.out.2.1.below hW with ⟨h2, _⟩ | ⟨b', o', c', h2, _, h3⟩
          · rw [h2] at hlt; simp at hlt
          · rw [h1] at h2; cases h2; exact h3 k y hy0
      cases hre
      have HRR := Lib.hid hrr
      obtain ⟨z, hz⟩ : ∃ z, z = fitV O y := ⟨_, rfl⟩
      have hv1 := fun W => fit_any O y hy W
      have hzf := fitV_flat O y
      rw [← hz] at hv1 hzf
      have HFit := Lib.hid hv1
      have HZ := Lib.hid hz
      have i1 : (k : Int) < (x.l.length : Int) := by omega
      have i2 : (k : Int) < 12 := by omega
      have i3 : (0 : Int) ≤ (k : Int) := by omega
      have HSS := Lib.hid (fun W (h : FJ w K O x (.slice (some ⟨rb, ro, none⟩) x.l.length xc) V bv k (.slice a1 k c1) W) => (show W.cell? ⟨w.heap.size, 1, none⟩ = some (.int .i64 O) ∧ W.cell? ⟨w.heap.size + 1, 3, none⟩ = some (.slice (some ⟨rb, ro, none⟩) x.l.length xc) ∧ W.cell? ⟨rb, ro + k * 3, none⟩ = some (.int .i64 y.k) ∧ W.cell? ⟨rb, ro + k * 3 + 1, none⟩ = some (.int .i64 y.n) ∧ W.cell? ⟨rb, ro + k * 3 + 2, none⟩ = some (.string y.s) from ⟨h.t1, h.x3, HRR.out W h.below⟩))
      clear hy0 hrr hz hv1 hK5 hk5 hzf
      go_upto_region 5 with fail
      refine wp_region_held_drew (S := fun W => W.cell? ⟨w.heap.size, 1, none⟩ = some (.int .i64 O) ∧ W.cell? ⟨w.heap.size + 1, 3, none⟩ = some (.slice (some ⟨rb, ro, none⟩) x.l.length xc) ∧ W.cell? ⟨rb, ro + k * 3, none⟩ = some (.int .i64 y.k) ∧ W.cell? ⟨rb, ro + k * 3 + 1, none⟩ = some (.int .i64 y.n) ∧ W.cell? ⟨rb, ro + k * 3 + 2, none⟩ = some (.string y.s)) (by kernel_rfl) (HSS.out wr J1.out) (fun hHeld => ?_)
      have J2 := Lib.hid (J1.out.later (W' := wr.drew) ((Below.refl _ _).drew))
      clear J1 u0 u3
      have J1 := J2
      clear J2
      generalize wr.drew = W4 at *
      refine wpAnyH_take (i := 0) (v := .pointer (some ⟨bv, 3, none⟩)) Kit.at0 (by kernel_rfl) (by kernel_rfl) (by kernel_rfl) (fun _ _ _ h => h) (Or.inl ⟨by rfl, fun w hw => ?_⟩) hHeld ?_
      case' refine_1 => obtain ⟨s0, s1, s2, s3, s4⟩ := hw; go_simp
      try simp only [Act.put, List.setIfInBounds_toArray, List.set_cons_zero, List.set_cons_succ]
      refine wpAnyH_take (i := 2) (v := .pointer (some ⟨w.heap.size, 1, none⟩)) Kit.at2 (by kernel_rfl) (by kernel_rfl) (by kernel_rfl) (fun _ _ _ h => h) (Or.inl ⟨by rfl, fun w hw => ?_⟩) hHeld ?_
      case' refine_1 => obtain ⟨s0, s1, s2, s3, s4⟩ := hw; go_simp
      try simp only [Act.put, List.setIfInBounds_toArray, List.set_cons_zero, List.set_cons_succ]
      refine wpAnyH_take (i := 3) (v := .int .i64 O) Kit.at3 (by kernel_rfl) (by kernel_rfl) (by kernel_rfl) (fun _ _ _ h => h) (Or.inl ⟨by rfl, fun w hw => ?_⟩) hHeld ?_
      case' refine_1 => obtain ⟨s0, s1, s2, s3, s4⟩ := hw; go_simp
      try simp only [Act.put, List.setIfInBounds_toArray, List.set_cons_zero, List.set_cons_succ]
      refine wpAnyH_take (i := 4) (v := .pointer (some ⟨w.heap.size + 1, 3, none⟩)) Kit.at4 (by kernel_rfl) (by kernel_rfl) (by kernel_rfl) (fun _ _ _ h => h) (Or.inl ⟨by rfl, fun w hw => ?_⟩) hHeld ?_
      case' refine_1 => obtain ⟨s0, s1, s2, s3, s4⟩ := hw; go_simp
      try simp only [Act.put, List.setIfInBounds_toArray, List.set_cons_zero, List.set_cons_succ]
      refine wpAnyH_take (i := 5) (v := (.slice (some ⟨rb, ro, none⟩) x.l.length xc)) Kit.at5 (by kernel_rfl) (by kernel_rfl) (by kernel_rfl) (fun _ _ _ h => h) (Or.inl ⟨by rfl, fun w hw => ?_⟩) hHeld ?_
      case' refine_1 => obtain ⟨s0, s1, s2, s3, s4⟩ := hw; go_simp
      try simp only [Act.put, List.setIfInBounds_toArray, List.set_cons_zero, List.set_cons_succ]
      refine wpAnyH_take (i := 6) (v := .int .i64 (k : Int)) Kit.at6 (by kernel_rfl) (by kernel_rfl) (by kernel_rfl) (fun _ _ _ h => h) (Or.inl ⟨by rfl, fun w hw => ?_⟩) hHeld ?_
      case' refine_1 => obtain ⟨s0, s1, s2, s3, s4⟩ := hw; go_simp
      try simp only [Act.put, List.setIfInBounds_toArray, List.set_cons_zero, List.set_cons_succ]
      refine wpAnyH_take (i := 7) (v := .pointer (some ⟨rb, ro + k * 3, none⟩)) Kit.at7 (by kernel_rfl) (by kernel_rfl) (by kernel_rfl) (fun _ _ _ h => h) (Or.inl ⟨by rfl, fun w hw => ?_⟩) hHeld ?_
      case' refine_1 => obtain ⟨s0, s1, s2, s3, s4⟩ := hw; go_simp
      try simp only [Act.put, List.setIfInBounds_toArray, List.set_cons_zero, List.set_cons_succ]
      refine wpAnyH_take (i := 8) (v := .agg #[.int .i64 y.k, .int .i64 y.n, .string y.s]) Kit.at8 (by kernel_rfl) (by kernel_rfl) (by kernel_rfl) (fun _ _ _ h => h) (Or.inl ⟨by rfl, fun w hw => ?_⟩) hHeld ?_
      case' refine_1 => obtain ⟨s0, s1, s2, s3, s4⟩ := hw; go_simp
      try simp only [Act.put, List.setIfInBounds_toArray, List.set_cons_zero, List.set_cons_succ]
      refine wpAnyH_take (i := 9) (v := .int .i64 500) Kit.at9 (by kernel_rfl) (by kernel_rfl) (by kernel_rfl) (fun _ _ _ h => h) (Or.inl ⟨by rfl, fun w hw => ?_⟩) hHeld ?_
      case' refine_1 => obtain ⟨s0, s1, s2, s3, s4⟩ := hw; go_simp
      try simp only [Act.put, List.setIfInBounds_toArray, List.set_cons_zero, List.set_cons_succ]
      refine wpAnyH_ready (rs := [1, 10]) (by kernel_rfl) (by simp) ?_
      refine AllReadyH.cons Kit.at1 (fun K0 hK => ?t1) (AllReadyH.cons Kit.at10 (fun K0 hK => ?t10) AllReadyH.nil)
      case' t1 =>
        have q := J1.out.v.c.2.2.2
        go_simp
        refine hK.out _ _ (HSS.out _ J1.out) (fun hHeld => ?_)
        clear hK K0 q
        try simp only [Act.put, List.setIfInBounds_toArray, List.set_cons_zero, List.set_cons_succ]
        refine wpAnyH_ready (rs := [10]) (by kernel_rfl) (by simp) ?_
        refine AllReadyH.cons Kit.at10 (fun K0 hK => ?_) AllReadyH.nil
        go_simp
        refine (HFit.out _).mono ?_; rintro e Wc ⟨rfl, hBc⟩
        have Jc := Lib.hid (J1.out.later hBc)
        refine hK.out _ _ (HSS.out _ Jc.out) (fun hHeld => ?_)
        clear hK K0 hBc J1
        try simp only [Act.put, List.setIfInBounds_toArray, List.set_cons_zero, List.set_cons_succ]
        refine wpAnyH_ready (rs := [11]) (by kernel_rfl) (by simp) ?_
        refine AllReadyH.cons Kit.at11 (fun K0 hK => ?_) AllReadyH.nil
        have Jb := Lib.hid (Jc.out.later (Kit.below_alloc Wc (.cells (cellsF z).toArray 30)))
        have Cb := Lib.hid (newCells Wc (cellsF z) (T := 30))
        refine Kit.step_buildSlice_one rfl 28 30 _ rfl (cellsF z) rfl i0 _ Tryz.underlying28 hi0 hz0 (hz1.trans rfl) (by rw [cellsF_len]; decide) (by rw [cellsF_len]; decide) ?_
        refine hK.out _ _ (HSS.out _ Jb.out) (fun hHeld => ?_)
        clear hK K0 Jc
        try simp only [Act.put, List.setIfInBounds_toArray, List.set_cons_zero, List.set_cons_succ]
        generalize Wc.alloc (.cells (cellsF z).toArray 30) = Wb at *
        generalize Wc.heap.size = T at *
        obtain ⟨J5, C5⟩ : Hid (FJ w K O x (.slice (some ⟨rb, ro, none⟩) x.l.length xc) V bv k (.slice a1 k c1) Wb) ∧ Hid (∀ (j : Nat) (u : Value), (cellsF z)[j]? = some u → Wb.cell? ((⟨T, 0, none⟩ : Addr).add j) = some u) := ⟨Jb, Cb⟩
        clear Jb Cb
        generalize Wb = W5 at *
      case' t10 =>
        go_simp
        refine (HFit.out _).mono ?_; rintro e Wc ⟨rfl, hBc⟩
        have Jc := Lib.hid (J1.out.later hBc)
        refine hK.out _ _ (HSS.out _ Jc.out) (fun hHeld => ?_)
        clear hK K0 hBc J1
        try simp only [Act.put, List.setIfInBounds_toArray, List.set_cons_zero, List.set_cons_succ]
        refine wpAnyH_ready (rs := [1, 11]) (by kernel_rfl) (by simp) ?_
        refine AllReadyH.cons Kit.at1 (fun K0 hK => ?ta) (AllReadyH.cons Kit.at11 (fun K0 hK => ?tb) AllReadyH.nil)
        case' ta =>
          have q := Jc.out.v.c.2.2.2
          go_simp
          refine hK.out _ _ (HSS.out _ Jc.out) (fun hHeld => ?_)
          clear hK K0 q
          try simp only [Act.put, List.setIfInBounds_toArray, List.set_cons_zero, List.set_cons_succ]
          refine wpAnyH_ready (rs := [11]) (by kernel_rfl) (by simp) ?_
          refine AllReadyH.cons Kit.at11 (fun K0 hK => ?_) AllReadyH.nil
          have Jb := Lib.hid (Jc.out.later (Kit.below_alloc Wc (.cells (cellsF z).toArray 30)))
          have Cb := Lib.hid (newCells Wc (cellsF z) (T := 30))
          refine Kit.step_buildSlice_one rfl 28 30 _ rfl (cellsF z) rfl i0 _ Tryz.underlying28 hi0 hz0 (hz1.trans rfl) (by rw [cellsF_len]; decide) (by rw [cellsF_len]; decide) ?_
          refine hK.out _ _ (HSS.out _ Jb.out) (fun hHeld => ?_)
          clear hK K0 Jc
          try simp only [Act.put, List.setIfInBounds_toArray, List.set_cons_zero, List.set_cons_succ]
          generalize Wc.alloc (.cells (cellsF z).toArray 30) = Wb at *
          generalize Wc.heap.size = T at *
          obtain ⟨J5, C5⟩ : Hid (FJ w K O x (.slice (some ⟨rb, ro, none⟩) x.l.length xc) V bv k (.slice a1 k c1) Wb) ∧ Hid (∀ (j : Nat) (u : Value), (cellsF z)[j]? = some u → Wb.cell? ((⟨T, 0, none⟩ : Addr).add j) = some u) := ⟨Jb, Cb⟩
          clear Jb Cb
          generalize Wb = W5 at *
        case' tb =>
          have Jb := Lib.hid (Jc.out.later (Kit.below_alloc Wc (.cells (cellsF z).toArray 30)))
          have Cb := Lib.hid (newCells Wc (cellsF z) (T := 30))
          refine Kit.step_buildSlice_one rfl 28 30 _ rfl (cellsF z) rfl i0 _ Tryz.underlying28 hi0 hz0 (hz1.trans rfl) (by rw [cellsF_len]; decide) (by rw [cellsF_len]; decide) ?_
          refine hK.out _ _ (HSS.out _ Jb.out) (fun hHeld => ?_)
          clear hK K0 Jc
          try simp only [Act.put, List.setIfInBounds_toArray, List.set_cons_zero, List.set_cons_succ]
          generalize Wc.alloc (.cells (cellsF z).toArray 30) = Wb at *
          generalize Wc.heap.size = T at *
          refine wpAnyH_ready (rs := [1]) (by kernel_rfl) (by simp) ?_
          refine AllReadyH.cons Kit.at1 (fun K0 hK => ?_) AllReadyH.nil
          have q := Jb.out.v.c.2.2.2
          go_simp
          refine hK.out _ _ (HSS.out _ Jb.out) (fun hHeld => ?_)
          clear hK K0 q
          try simp only [Act.put, List.setIfInBounds_toArray, List.set_cons_zero, List.set_cons_succ]
          obtain ⟨J5, C5⟩ : Hid (FJ w K O x (.slice (some ⟨rb, ro, none⟩) x.l.length xc) V bv k (.slice a1 k c1) Wb) ∧ Hid (∀ (j : Nat) (u : Value), (cellsF z)[j]? = some u → Wb.cell? ((⟨T, 0, none⟩ : Addr).add j) = some u) := ⟨Jb, Cb⟩
          clear Jb Cb
          generalize Wb = W5 at *
      all_goals
        refine wpAnyH_ready (rs := [12]) (by kernel_rfl) (by simp) ?_
        refine AllReadyH.cons Kit.at12 (fun K0 hK => ?_) AllReadyH.nil
        refine Kit.step_append_own_at rfl _ _ 28 rfl (bv + 1) 30 i0 (.agg zero4.toArray) 4 56 Tryz.underlying28 hi0 hz0 hz1 hz2 rfl (by decide) (.slice a1 k c1) k (((x.l.take k).map (fitV O)).flatMap cellsF) rfl J5.out.row ⟨T, 0, none⟩ 1 1 (cellsF z) rfl (cellsF_len z) C5.out (cellsF_one z) (by unfold maxLen; omega) (by omega) J5.out.sz ?_
        intro v' w6 hown' hgrow hat
        obtain ⟨g, cap, rfl, hgb, hgl⟩ := Kit.ownsRow_succ' hown'
        have hm6 : Moved (fun j => bv + 1 ≤ j) W5 w6 := (Kit.Moved.of_grownBy hgrow).mono fun j _ hj => (J5.out.row.lt j hj).1
        have hsz5 := J5.out.sz
        have hlt5 := J5.out.lt
        have B6 := J5.out.below.trans (hm6.below (fun j hj => by omega) (by omega))
        have S6 := Lib.hid (And.intro (cell_moved J5.out.t1 hm6 (by omega)) (And.intro (cell_moved J5.out.x3 hm6 (by omega)) (HRR.out w6 B6)))
        have x3 := cell_moved J5.out.v.c.2.2.2 hm6 (by omega)
        have y3 := (J5.out.v.moved hm6 (by omega)).f 3
        rw [HZ.out] at hown'
        have P6 := Lib.hid (J5.out.push HY.out hgrow hown')
        clear hown' hgrow hat hgb hgl hm6 B6
        refine hK.out _ _ S6.out (fun hHeld => ?_)
        clear hK K0
        try simp only [Act.put, List.setIfInBounds_toArray, List.set_cons_zero, List.set_cons_succ]
        refine wpAnyH_take (i := 13) (v := .pointer (some ⟨bv, 3, none⟩)) Kit.at13 (by kernel_rfl) (by kernel_rfl) (by kernel_rfl) (fun _ _ _ h => h) (Or.inl ⟨by rfl, fun w hw => ?_⟩) hHeld ?_
        case' refine_1 => obtain ⟨s0, s1, s2, s3, s4⟩ := hw; go_simp
        try simp only [Act.put, List.setIfInBounds_toArray, List.set_cons_zero, List.set_cons_succ]
        refine wpAnyH_ready (rs := [14]) (by kernel_rfl) (by simp) ?_
        refine AllReadyH.cons Kit.at14 (fun K0 hK => ?_) AllReadyH.nil
        go_simp
        refine hK.out _ _ ⟨P6.out.t1, P6.out.x3, HRR.out _ P6.out.below⟩ (fun _ => wpAnyH_done (by kernel_rfl) ?_ _)
        clear hK K0
        go_wp2
        go_roundw
        case rel => exact ⟨k + 1, .slice (some ⟨g, 0, none⟩) (k + 1) cap, by omega, by omega, .inr HK5.out, by go_num, P6.out⟩
        case measure => simp [intOf]; omega
    · have ht : (if K = 5 then (x.l.take 12).map (fitV O) else []) = (x.l.take k).map (fitV O) := by
        by_cases h5 : K = 5
        · rw [if_pos h5]
          rcases Nat.lt_or_ge k x.l.length with hk | hk
          · rw [show k = 12 by omega]
          · rw [List.take_of_length_le hk, List.take_of_length_le (by omega)]
        · rw [if_neg h5, show k = 0 by omega]; rfl
      have hlenk : ((x.l.take k).map (fitV O)).length = k := by simp; omega
      obtain ⟨⟨x0, x1, x2, x3⟩, xf⟩ := J1.out.v
      obtain ⟨⟨y0, y1, y2, y3⟩, yf⟩ := J1.out.res
      have yf0 := yf 0
      have yf1 := yf 1
      have yf2 := yf 2
      have yf3 := yf 3
      have HT := Lib.hid (And.intro ht hlenk)
      have hlt := J1.out.lt
      have hm4 := end4b (w.heap.size + 2) wr (.int .i64 V.k) (.int .i64 V.n) (.string V.s) (.slice a1 k c1)
      have hcc : (¬ (k : Int) < (x.l.length : Int)) ∨ ((k : Int) < (x.l.length : Int) ∧ ¬ (k : Int) < 12) ∨ ((k : Int) < (x.l.length : Int) ∧ (k : Int) < 12 ∧ (K == 5) = false) := by
        by_cases a : (k : Int) < (x.l.length : Int)
        · by_cases b : (k : Int) < 12
          · refine .inr (.inr ⟨a, b, ?_⟩)
            exact beq_eq_false_iff_ne.2 fun h5 => by omega
          · exact .inr (.inl ⟨a, b⟩)
        · exact .inl a
      clear xf yf ht hlenk hc hk5
      rcases hcc with hc | ⟨hc, hc2⟩ | ⟨hc, hc2, hc3⟩
      all_goals
        go_wp2
        refine bodyPost_ret (v := aggV V.k V.n V.s (.slice a1 k c1)) (by simp [results, Tryz.results32, go_sem, y0, y1, y2, y3]) rfl ⟨⟨.slice a1 k c1, by rw [HX.out.2.2]; rfl, ?_, ?_⟩, ?_⟩
        · rw [HX.out.2.2]
          show RepL _ _ (if K = 5 then (x.l.take 12).map (fitV O) else []) _
          rw [HT.out.1]
          refine repL_own (e := 30) (base := bv + 1) (Kit.ownsRow_kept J1.out.row fun j hj => ?_) HT.out.2.symm (fun y hy => by obtain ⟨z, _, rfl⟩ := List.mem_map.1 hy; exact fitV_flat _ _) J1.out.nil
          have hj2 := J1.out.row.lt j hj
          exact hm4.block j hj2.2 (by omega)
        · intro j h2
          have := (J1.out.row.lt j h2).1
          omega
        · exact J1.out.below.trans (hm4.below (fun j hj => by omega) (by have := J1.out.sz; omega))
end Go.Proofs.YtlcmphoamoiemaaGreatDoor.Val
end
section
namespace Go.Proofs.YtlcmphoamoiemaaGreatDoor.Val
open Go.RowKit
open Kit (ret_int ret_bool Moved)

attribute [local go_sem] Oper.semAt_some

theorem rightTy_cases {K O : Int} (h : rightTy K O = true) : (K = 5 ∧ 1 ≤ O ∧ O ≤ 4) ∨ (1 ≤ K ∧ K ≤ 4 ∧ O = 0) := by
  unfold rightTy inK at h
  split at h
  · simp at h; omega
  · simp at h; omega
theorem valOne_kind {k n : Int} {s : ByteArray} (h : 1 ≤ k ∧ k ≤ 4) : (valOne k n s).k = k := by
  unfold valOne
  split
  · rename_i h1; exact h1.symm
  · split
    · rename_i h2; exact h2.symm
    · split
      · rfl
      · omega
/-- What fits a kind is right, and of the kind (or nil, where the kind is a reference's). -/
theorem fitV_right {k : Int} {x : RawOne} (h : 1 ≤ k ∧ k ≤ 4) : rightF (fitV k x) = true ∧ ((fitV k x).k = k ∨ (k = 3 ∨ k = 4) ∧ (fitV k x).k = 0) := by
  unfold fitV
  rw [if_neg (by omega)]
  split
  · rename_i h3
    split
    · exact ⟨by kernel_rfl, .inr ⟨h3, rfl⟩⟩
    · have := pickN_lt x.n (n := 500) (by decide)
      refine ⟨?_, .inl rfl⟩
      unfold rightF
      rw [if_neg (by show ¬ k = 2; omega), show (flat k (1 + (pickN x.n 500 : Int)) (bs [])).k = k from rfl, show (flat k (1 + (pickN x.n 500 : Int)) (bs [])).n = 1 + (pickN x.n 500 : Int) from rfl]
      unfold rightN
      rw [if_neg (by omega), if_neg (by omega), if_pos h3]
      have e : (decide ((1 : Int) ≤ 1 + (pickN x.n 500 : Int)) && decide (1 + (pickN x.n 500 : Int) ≤ 100000)) = true := by simp; omega
      rw [e]; rfl
  · exact ⟨(valOne_right _ _ _).1, .inl (valOne_kind h)⟩
theorem fits_kind {k K : Int} (h : k = K ∨ (K = 3 ∨ K = 4) ∧ k = 0) : fitsK k K = true := by
  unfold fitsK isRefK
  rcases h with h | ⟨h, h0⟩
  · simp [h]
  · simp [h, h0]
theorem fits_zero3 {K O : Int} (h : rightTy K O = true) : fitsV (zeroV K O) K O = true := by
  have z0 : rightV (flat 0 0 ⟨#[]⟩) = true := by kernel_rfl
  have z1 : rightV (flat 1 0 ⟨#[]⟩) = true := by kernel_rfl
  have z2 : rightV (flat 2 0 ⟨#[]⟩) = true := by kernel_rfl
  have z5 : rightV (flat 5 0 ⟨#[]⟩) = true := by kernel_rfl
  have hk : K = 1 ∨ K = 2 ∨ K = 3 ∨ K = 4 ∨ K = 5 := by
    have := rightTy_cases h
    omega
  unfold fitsV zeroV
  rw [h, Bool.true_and]
  rcases hk with rfl | rfl | rfl | rfl | rfl
  · rw [if_neg (by decide), z1]; rfl
  · rw [if_neg (by decide), z2]; rfl
  · rw [if_pos (by decide), z0]; rfl
  · rw [if_pos (by decide), z0]; rfl
  · rw [if_neg (by decide), z5]; rfl
theorem zero_fits3 (K O : Int) : (zeroV K O).fits := by
  unfold zeroV
  split
  · exact ⟨by show (ByteArray.mk #[]).size ≤ _; decide, fun y hy => by cases hy⟩
  · exact ⟨by show (ByteArray.mk #[]).size ≤ _; decide, fun y hy => by cases hy⟩
theorem zero_rep3 {B : Nat} {w : World} (K O : Int) : Rep B w (zeroV K O) (flatV (zeroV K O).k 0 ⟨#[]⟩) := by
  unfold zeroV
  split <;> exact rep_flat

/-- What is known of a value that was made to fit a right type. -/
structure FitFacts (K O : Int) (V : Vl) : Prop where
  right : rightV V = true
  kind : V.k = K ∨ (K = 3 ∨ K = 4) ∧ V.k = 0
  els : K = 5 ∨ V.l = []
  each : ∀ y ∈ V.l, y.isFlat ∧ rightF y = true ∧ fitsK y.k O = true ∧ y.k ≠ 5
theorem flat_k (y : Vl) (h : y.isFlat) : y = flat y.k y.n y.s := by
  cases y; cases h; rfl
theorem valFit_facts {K O : Int} (h : rightTy K O = true) (x : Raw) : FitFacts K O (valFit K O x) := by
  rcases rightTy_cases h with ⟨rfl, h1, h4⟩ | ⟨h1, h4, rfl⟩
  · have hel : ∀ y ∈ (x.l.take 12).map (fitV O), y.isFlat ∧ rightF y = true ∧ fitsK y.k O = true ∧ y.k ≠ 5 := by
      intro y hy
      obtain ⟨z, _, rfl⟩ := List.mem_map.1 hy
      obtain ⟨a, b⟩ := fitV_right (x := z) ⟨h1, h4⟩
      exact ⟨fitV_flat _ _, a, fits_kind b, by omega⟩
    have e : valFit 5 O x = .mk 5 0 (bs []) ((x.l.take 12).map (fitV O)) := rfl
    refine ⟨?_, .inl rfl, .inl rfl, by rw [e]; exact hel⟩
    rw [e]
    unfold rightV
    have h5 : (Vl.mk 5 0 (bs []) ((x.l.take 12).map (fitV O))).k = 5 := rfl
    rw [if_pos h5]
    have hw : ((x.l.take 12).map (fitV O)).any wrongIn = false := by
      rw [List.any_eq_false]
      intro y hy
      obtain ⟨-, a, -, b⟩ := hel y hy
      unfold wrongIn
      rw [a]; simp [b]
    show (decide (((x.l.take 12).map (fitV O)).length ≤ 12) && (0 : Int) == 0 && (bs []).data.toList.isEmpty && !((x.l.take 12).map (fitV O)).any wrongIn) = true
    rw [hw]
    have hl : ((x.l.take 12).map (fitV O)).length ≤ 12 := by simp; omega
    rw [decide_eq_true hl]
    rfl
  · have e : valFit K 0 x = fitV K ⟨x.k, x.n, x.s⟩ := by
      unfold valFit
      rw [if_neg (by omega)]
      exact (flat_k _ (fitV_flat _ _)).symm
    rw [e]
    obtain ⟨a, b⟩ := fitV_right (x := ⟨x.k, x.n, x.s⟩) ⟨h1, h4⟩
    have hf := fitV_flat K ⟨x.k, x.n, x.s⟩
    unfold Vl.isFlat at hf
    refine ⟨?_, b, .inr hf, by rw [hf]; intro y hy; cases hy⟩
    unfold rightV
    rw [if_neg (by omega), a]
/-- Does it fit another right type? -/
theorem facts_fits {K O L P : Int} {V : Vl} (h : FitFacts K O V) (hK : rightTy K O = true) (hL : rightTy L P = true) :
    (K ≠ L → fitsV V L P = ((isRefK K && isRefK L) && V.k == 0)) ∧ (K = L → O = P → fitsV V L P = true) ∧ (K = L → K ≠ 5 → O = P) := by
  have hk := rightTy_cases hK
  have hl := rightTy_cases hL
  refine ⟨fun hne => ?_, fun e1 e2 => ?_, fun e h5 => by omega⟩
  · unfold fitsV
    rw [hL, h.right, Bool.true_and, Bool.true_and]
    rcases h.kind with e | ⟨h34, e⟩
    · have e1 : fitsK V.k L = false := by unfold fitsK; rw [e]; simp; omega
      have e2 : (V.k == 0) = false := beq_eq_false_iff_ne.2 (by omega)
      rw [e1, e2]; simp
    · have e1 : fitsK V.k L = isRefK L := by
        unfold fitsK; rw [e]
        have : ((0 : Int) == L) = false := beq_eq_false_iff_ne.2 (by omega)
        rw [this]; rfl
      have e2 : isRefK K = true := by unfold isRefK; rcases h34 with h | h <;> simp [h]
      have e3 : V.l = [] := by
        rcases h.els with h | h
        · omega
        · exact h
      rw [e1, e2, e, e3]; simp
  · subst e1 e2
    unfold fitsV
    rw [hK, h.right, fits_kind h.kind]
    simp only [Bool.true_and]
    rw [List.all_eq_true]
    exact fun y hy => (h.each y hy).2.2.1
theorem facts_each {K O : Int} {V : Vl} (h : FitFacts K O V) (hK : rightTy K O = true) : ∀ y ∈ V.l, fitsV y O 0 = true := by
  intro y hy
  obtain ⟨a, b, c, d⟩ := h.each y hy
  have h5 : K = 5 := by
    rcases h.els with h | h
    · exact h
    · rw [h] at hy; cases hy
  have hO : 1 ≤ O ∧ O ≤ 4 := by have := rightTy_cases hK; omega
  unfold fitsV
  have hr : rightTy O 0 = true := by unfold rightTy inK; rw [if_neg (by omega)]; simp; omega
  have hv : rightV y = true := by unfold rightV; rw [if_neg d, b]
  unfold Vl.isFlat at a
  rw [hr, hv, c, a]; rfl
theorem flat_fits {y : Vl} (_h : y.isFlat) (hr : rightF y = true) (h5 : y.k ≠ 5) : y.fits := (rightV_enc (x := y) (by unfold rightV; rw [if_neg h5, hr])).fits
end Go.Proofs.YtlcmphoamoiemaaGreatDoor.Val
end
section
namespace Go.Proofs.YtlcmphoamoiemaaGreatDoor.Val
open Go.RowKit
open Kit (ret_int ret_bool Moved)

attribute [local go_sem] Oper.semAt_some

/-- What lies in memory behind the first calls. -/
structure FtJ (w : World) (K O L P : Int) (V : Vl) (bt bu bv : Nat) (vlv : Value) (W : World) : Prop where
  t0 : W.cell? ⟨bt, 0, none⟩ = some (.int .i64 K)
  t1 : W.cell? ⟨bt, 1, none⟩ = some (.int .i64 O)
  u0 : W.cell? ⟨bu, 0, none⟩ = some (.int .i64 L)
  u1 : W.cell? ⟨bu, 1, none⟩ = some (.int .i64 P)
  v : Bx W bv V vlv
  below : Below w.heap.size w W
theorem FtJ.later {w : World} {K O L P : Int} {V : Vl} {bt bu bv : Nat} {vlv : Value} {W W' : World} (h : FtJ w K O L P V bt bu bv vlv W) (hB : Below W.heap.size W W') : FtJ w K O L P V bt bu bv vlv W' :=
  ⟨(hB.cell (p := ⟨bt, 0, none⟩) (Kit.lt_of_cell h.t0)).trans h.t0, (hB.cell (p := ⟨bt, 1, none⟩) (Kit.lt_of_cell h.t1)).trans h.t1, (hB.cell (p := ⟨bu, 0, none⟩) (Kit.lt_of_cell h.u0)).trans h.u0, (hB.cell (p := ⟨bu, 1, none⟩) (Kit.lt_of_cell h.u1)).trans h.u1, h.v.later hB, next h.below hB⟩

theorem fitHeld {w : World} {K O L P : Int} {V : Vl} {bt bu bv : Nat} {vlv : Value} {W : World} (h : FtJ w K O L P V bt bu bv vlv W) :
    W.cell? ⟨bv, 0, none⟩ = some (.int .i64 V.k) ∧ W.cell? ⟨bv, 1, none⟩ = some (.int .i64 V.n) ∧ W.cell? ⟨bv, 2, none⟩ = some (.string V.s) ∧ W.cell? ⟨bv, 3, none⟩ = some vlv ∧ W.cell? ⟨bt, 0, none⟩ = some (.int .i64 K) ∧ W.cell? ⟨bt, 1, none⟩ = some (.int .i64 O) := by
  obtain ⟨p1, p2, p3, p4⟩ := h.v.1
  exact ⟨p1, p2, p3, p4, h.t0, h.t1⟩
/-- An element's cells, the list's, and the type's second. -/
def elemAt (W : World) (bv bt eb o : Nat) (vlv : Value) (y : Vl) (lw : Value) (O : Int) : Prop :=
  W.cell? ⟨bv, 3, none⟩ = some vlv ∧ W.cell? ⟨eb, o, none⟩ = some (.int .i64 y.k) ∧ W.cell? ⟨eb, o + 1, none⟩ = some (.int .i64 y.n) ∧ W.cell? ⟨eb, o + 2, none⟩ = some (.string y.s) ∧ W.cell? ⟨eb, o + 3, none⟩ = some lw ∧ W.cell? ⟨bt, 1, none⟩ = some (.int .i64 O)
theorem elemAt.later {W W' : World} {bv bt eb o : Nat} {vlv : Value} {y : Vl} {lw : Value} {O : Int} (h : elemAt W bv bt eb o vlv y lw O) (hB : Below W.heap.size W W') : elemAt W' bv bt eb o vlv y lw O := by
  obtain ⟨h0, h1, h2, h3, h4, h5⟩ := h
  exact ⟨(hB.cell (Kit.lt_of_cell h0)).trans h0, (hB.cell (Kit.lt_of_cell h1)).trans h1, (hB.cell (Kit.lt_of_cell h2)).trans h2, (hB.cell (Kit.lt_of_cell h3)).trans h3, (hB.cell (Kit.lt_of_cell h4)).trans h4, (hB.cell (Kit.lt_of_cell h5)).trans h5⟩
theorem run_neq_type (K O L P : Int) (w : World) : (binOp .neq 26 (.agg #[.int .i64 K, .int .i64 O]) (.agg #[.int .i64 L, .int .i64 P])).run Tryz.prog w = .ok (.bool (!(decide (K = L ∧ O = P)))) w := by
  simp [go_sem, Tryz.underlying26]
  by_cases h1 : K = L <;> by_cases h2 : O = P <;> simp [h1, h2]
theorem guard_type : Tryz.prog.eqGuardType Tryz.prog.depth 26 = false := by kernel_rfl
theorem run_guard_type (x y : Operand) (v u : Array Value) (w : World) : (eqGuard .neq 26 x y (.agg v) (.agg u)).run Tryz.prog w = .ok () w := run_eqGuard_agg w .neq 26 x y _ _ guard_type
attribute [local go_sem high] run_neq_type run_guard_type

set_option maxRecDepth 100000 in
set_option maxHeartbeats 8000000 in
theorem fitslaw_any (ae : Addr) (a b c d : Int) (a1 : -9223372036854775808 ≤ a) (a2 : a ≤ 9223372036854775807) (b1 : -9223372036854775808 ≤ b) (b2 : b ≤ 9223372036854775807) (c1 : -9223372036854775808 ≤ c) (c2 : c ≤ 9223372036854775807) (d1 : -9223372036854775808 ≤ d) (d2 : d ≤ 9223372036854775807) (x : Raw) (hx : x.Ok) (w : World) (xlv : Value) (hl : RawL w x.l xlv) (hE : Env ae w) :
    Calls Tryz.prog 5 #[.int .i64 a, .int .i64 b, .int .i64 c, .int .i64 d, .agg #[.int .i64 x.k, .int .i64 x.n, .string x.s, xlv]] w fun e w' => e = .returned (.bool true) ∧ Below w.heap.size w w' := by
  have hT := fun W => valType_any a b a1 a2 b1 b2 W
  have hU := fun W => valType_any c d c1 c2 d1 d2 W
  have hK := type_right a b
  have hL := type_right c d
  generalize typeK a = K at *
  generalize typeO a b = O at *
  generalize typeK c = L at *
  generalize typeO c d = P at *
  have hF := fun W (h : Below w.heap.size w W) => ValFit_any K O x hx W xlv (hl.below h)
  unfold FitPost at hF
  have hV := valFit_facts hK x
  generalize valFit K O x = V at *
  have hvf : V.fits := (rightV_enc hV.right).fits
  have hself := (facts_fits hV hK hK).2.1 rfl rfl
  have HE := Lib.hid (fun W (h : Below w.heap.size w W) => hE.below h)
  have HCU := Lib.hid (fun W (h : Below w.heap.size w W) v (hr : Rep W.heap.size W V v) => fits_any ae V hvf L P W.heap.size W v (Nat.le_refl _) (hE.below h) hr)
  have HCT := Lib.hid (fun W (h : Below w.heap.size w W) v (hr : Rep W.heap.size W V v) => hself ▸ fits_any ae V hvf K O W.heap.size W v (Nat.le_refl _) (hE.below h) hr)
  have HCZ := Lib.hid (fun W (h : Below w.heap.size w W) => fits_zero3 hK ▸ fits_any ae (zeroV K O) (zero_fits3 K O) K O W.heap.size W _ (Nat.le_refl _) (hE.below h) (zero_rep3 K O))
  have HCY := Lib.hid (fun W (h : Below w.heap.size w W) y (hy : y ∈ V.l) v (hr : Rep W.heap.size W y v) => facts_each hV hK y hy ▸ fits_any ae y (flat_fits (hV.each y hy).1 (hV.each y hy).2.1 (hV.each y hy).2.2.2) O 0 W.heap.size W v (Nat.le_refl _) (hE.below h) hr)
  have HFF := Lib.hid (facts_fits hV hK hL)
  have HT := Lib.hid hT
  have HU := Lib.hid hU
  have HF := Lib.hid hF
  obtain ⟨xa, xc, rfl, -⟩ := hl.len
  have B0 := Lib.hid (up (Below.refl w.heap.size w) (.cells #[.int .i64 x.k, .int .i64 x.n, .string x.s, .slice xa x.l.length xc] 24))
  have A0 := Lib.hid (Kit.box4_new w (.int .i64 x.k) (.int .i64 x.n) (.string x.s) (.slice xa x.l.length xc) 24)
  clear hE hT hU hF hl hx hK hL hV hvf hself
  go_enter Tryz.func5, Tryz.ntmps5
  go_wp2_with fail
  refine (awake3_any ae _ (HE.out _ B0.out)).mono ?_
  rintro e W1 ⟨rfl, hB⟩
  have B1 := Lib.hid (next B0.out hB)
  have A1 := Lib.hid (A0.out.below hB A0.out.lt)
  clear hB B0 A0
  go_wp2_with fail
  refine (HT.out _).mono ?_
  rintro e W2 ⟨rfl, hB⟩
  have B2 := Lib.hid (up (next B1.out hB) (.cells #[.int .i64 K, .int .i64 O] 26))
  have A2 := Lib.hid ((A1.out.below hB A1.out.lt).kept (.cells #[.int .i64 K, .int .i64 O] 26))
  have C2 := Lib.hid (And.intro (Kit.cell_new W2 #[.int .i64 K, .int .i64 O] 26 0 rfl) (Kit.cell_new W2 #[.int .i64 K, .int .i64 O] 26 1 rfl))
  clear hB B1 A1
  go_wp2_with fail
  refine (HU.out _).mono ?_
  rintro e W3 ⟨rfl, hB⟩
  have B3 := Lib.hid (up (next B2.out hB) (.cells #[.int .i64 L, .int .i64 P] 26))
  have A3 := Lib.hid ((A2.out.below hB A2.out.lt).kept (.cells #[.int .i64 L, .int .i64 P] 26))
  have C3 := Lib.hid (And.intro (Kit.cell_kept (.cells #[.int .i64 L, .int .i64 P] 26) ((hB.cell (p := ⟨W2.heap.size, 0, none⟩) (Kit.lt_of_cell C2.out.1)).trans C2.out.1)) (Kit.cell_kept (.cells #[.int .i64 L, .int .i64 P] 26) ((hB.cell (p := ⟨W2.heap.size, 1, none⟩) (Kit.lt_of_cell C2.out.2)).trans C2.out.2)))
  have D3 := Lib.hid (And.intro (Kit.cell_new W3 #[.int .i64 L, .int .i64 P] 26 0 rfl) (Kit.cell_new W3 #[.int .i64 L, .int .i64 P] 26 1 rfl))
  clear hB B2 A2 C2
  obtain ⟨p1, p2, p3, p4⟩ := A3.out
  obtain ⟨q1, q2⟩ := C3.out
  go_wp2_with fail
  refine (HF.out _ B3.out).mono ?_
  rintro e W4 ⟨⟨lv, rfl, hlv, -⟩, hB⟩
  obtain ⟨va, vc, rfl, z4⟩ := hlv.len
  unfold maxLen at z4
  have J4 : Hid (FtJ w K O L P V W2.heap.size W3.heap.size W4.heap.size (.slice va V.l.length vc) (W4.alloc (.cells #[.int .i64 V.k, .int .i64 V.n, .string V.s, .slice va V.l.length vc] 30))) := Lib.hid
    ⟨Kit.cell_kept _ ((hB.cell (p := ⟨W2.heap.size, 0, none⟩) (Kit.lt_of_cell C3.out.1)).trans C3.out.1), Kit.cell_kept _ ((hB.cell (p := ⟨W2.heap.size, 1, none⟩) (Kit.lt_of_cell C3.out.2)).trans C3.out.2), Kit.cell_kept _ ((hB.cell (p := ⟨W3.heap.size, 0, none⟩) (Kit.lt_of_cell D3.out.1)).trans D3.out.1), Kit.cell_kept _ ((hB.cell (p := ⟨W3.heap.size, 1, none⟩) (Kit.lt_of_cell D3.out.2)).trans D3.out.2), Bx.new W4 V _ hlv, up (next B3.out hB) _⟩
  clear hB hlv B3 A3 C3 D3 p1 p2 p3 p4 q1 q2
  go_upto_region 5 with fail
  generalize W4.alloc (.cells #[.int .i64 V.k, .int .i64 V.n, .string V.s, .slice va V.l.length vc] 30) = W5 at *
  obtain ⟨p1, p2, p3, p4⟩ := J4.out.v.1
  have q1 := J4.out.u0
  have q2 := J4.out.u1
  go_wp2_with fail
  refine (HCU.out _ J4.out.below _ J4.out.v.rep).mono ?_
  rintro e W6 ⟨rfl, hB⟩
  have J6 := Lib.hid (J4.out.later hB)
  clear hB J4 p1 p2 p3 p4 q1 q2
  go_wp2
  go_loopw [16, 17] (fun j i wr => ∃ k : Nat, k ≤ V.l.length ∧ j = .bool true ∧ i = .int .i64 k ∧ Below W6.heap.size W6 wr) (fun _ i _ => V.l.length - (intOf i).toNat)
  case atStart => exact ⟨0, by omega, rfl, rfl, Below.refl _ _⟩
  case round =>
    obtain ⟨k, hk, rfl, rfl, hBr⟩ := hrel
    have J7 := Lib.hid (J6.out.later hBr)
    have HBr := Lib.hid hBr
    clear hBr
    have p4 := J7.out.v.1.2.2.2
    by_cases hlt : k < V.l.length
    · obtain ⟨y, hy⟩ : ∃ y, V.l[k]? = some y := ⟨_, List.getElem?_eq_getElem (by omega)⟩
      have hym := List.mem_of_getElem? hy
      obtain ⟨eb, eo, ec, lw1, e1, hb1, ⟨q0, q1, q2, q3⟩, hl1⟩ := J7.out.v.2.at hy
      cases e1
      have i1 : (0 : Int) ≤ (k : Int) := by omega
      have i2 : (k : Int) < (V.l.length : Int) := by omega
      have HYM := Lib.hid hym
      have J8 := Lib.hid (J7.out.later (Below.refl _ _).drew)
      have HL2 := Lib.hid (hl1.below (Below.refl wr.heap.size wr).drew (Nat.le_refl _))
      have t1 := J7.out.t1
      clear hl1 hy hym
      go_wp2_with fail
      have s8 : elemAt wr.drew W4.heap.size W2.heap.size eb (eo + k * 4) (.slice (some ⟨eb, eo, none⟩) V.l.length vc) y lw1 O := ⟨p4, q0, q1, q2, q3, t1⟩
      go_region_held3 (fun W' => W'.cell? ⟨W4.heap.size, 3, none⟩ = some (.slice (some ⟨eb, eo, none⟩) V.l.length vc) ∧ W'.cell? ⟨eb, eo + k * 4, none⟩ = some (.int .i64 y.k) ∧ W'.cell? ⟨eb, eo + k * 4 + 1, none⟩ = some (.int .i64 y.n) ∧ W'.cell? ⟨eb, eo + k * 4 + 2, none⟩ = some (.string y.s) ∧ W'.cell? ⟨eb, eo + k * 4 + 3, none⟩ = some lw1 ∧ W'.cell? ⟨W2.heap.size, 1, none⟩ = some (.int .i64 O))
        (first
          | exact s8
          | exact s9)
        (first | (go_at_call 27; refine (HCY.out _ J8.out.below y HYM.out _ (rep_in HL2.out)).mono ?_; rintro e W9 ⟨rfl, hB⟩; have J9 := Lib.hid (J8.out.later hB); have B9 := Lib.hid hB; have s9 := s8.later hB))
      go_wp2
      go_roundw
      case rel => exact ⟨k + 1, by omega, rfl, by go_num, HBr.out.trans (((Below.refl wr.heap.size wr).drew.trans B9.out).mono HBr.out.size)⟩
      case measure => simp [intOf]; omega
    · obtain rfl : k = V.l.length := by omega
      go_upto_region 11 with fail
      go_cut [65] from 51 (fun v wx => v = .bool false ∧ FtJ w K O L P V W2.heap.size W3.heap.size W4.heap.size (.slice va V.l.length vc) wx)
      case first =>
       have J8 := Lib.hid (J7.out.later (Below.refl _ _).drew)
       have s0 := fitHeld J8.out
       clear J7
       go_wp2_with fail
       go_region_held3 (fun W' => W'.cell? ⟨W4.heap.size, 0, none⟩ = some (.int .i64 V.k) ∧ W'.cell? ⟨W4.heap.size, 1, none⟩ = some (.int .i64 V.n) ∧ W'.cell? ⟨W4.heap.size, 2, none⟩ = some (.string V.s) ∧ W'.cell? ⟨W4.heap.size, 3, none⟩ = some (.slice va V.l.length vc) ∧ W'.cell? ⟨W2.heap.size, 0, none⟩ = some (.int .i64 K) ∧ W'.cell? ⟨W2.heap.size, 1, none⟩ = some (.int .i64 O))
         (first
           | exact s0
           | exact s8
           | exact s9
           | exact s10)
         (first
           | (go_at_call 27; refine (HCZ.out _ J10.out.below).mono ?_; rintro e W11 ⟨rfl, hB⟩; have J11 := Lib.hid (J10.out.later hB); have s10 := fitHeld J11.out; clear hB)
           | (go_at_call 27; refine (HCT.out _ J8.out.below _ J8.out.v.rep).mono ?_; rintro e W9 ⟨rfl, hB⟩; have J9 := Lib.hid (J8.out.later hB); have s8 := fitHeld J9.out; clear hB)
           | (go_at_call 29; refine (zero_any K O _).mono ?_; rintro e W10 ⟨rfl, hB⟩; have J10 := Lib.hid (J9.out.later hB); have s9 := fitHeld J10.out; clear hB))
       go_wp2
       all_goals go_meet
       all_goals exact ⟨rfl, J11.out⟩
      case rest =>
       obtain ⟨rfl, J12⟩ := hcut
       have J13 := Lib.hid J12
       have t0 := J12.t0
       have t1 := J12.t1
       have u0 := J12.u0
       have u1 := J12.u1
       have v0 := J12.v.1.1
       clear J6 J12 HBr p4
       go_upto_region 13 with fail
       go_cut [18] from 66 (fun v wx => v = .bool (isRefK K && isRefK L) ∧ wx = wc)
       case first =>
        cases k3 : (K == 3) <;> cases k4 : (K == 4) <;> cases l3 : (L == 3) <;> cases l4 : (L == 4)
        all_goals
          go_wp2
          go_meet
          refine ⟨?_, rfl⟩
          simp [isRefK, k3, k4, l3, l4]
       case rest =>
        obtain ⟨rfl, rfl⟩ := hcut
        by_cases hKL : K = L
        · subst hKL
          have hrd : (K != K) = false := by simp
          by_cases hOP : O = P
          · have hF := HFF.out.2.1 rfl hOP
            subst hOP
            go_wp2
            all_goals
              go_ret
              exact ⟨ret_bool (by simp), J13.out.below⟩
          · have hF : K = 5 := Classical.byContradiction fun h => hOP (HFF.out.2.2 rfl h)
            subst hF
            have hd : (decide ((5 : Int) = 5 ∧ O = P)) = false := by simp [hOP]
            go_wp2
            go_ret
            exact ⟨ret_bool (by simp), J13.out.below⟩
        · have hF := HFF.out.1 hKL
          have hd : (K != L) = true := by simp [hKL]
          rw [hF]
          generalize fitsV V L P = F at *
          cases hr : (isRefK K && isRefK L)
          · rw [Bool.false_and]
            go_wp2
            go_ret
            exact ⟨ret_bool (by simp), J13.out.below⟩
          · rw [Bool.true_and]
            go_wp2
            go_ret
            exact ⟨ret_bool (by simp), J13.out.below⟩
theorem fits_row {w : World} (a : Int) (a1 : -9223372036854775808 ≤ a) (a2 : a ≤ 9223372036854775807) (b : Int) (b1 : -9223372036854775808 ≤ b) (b2 : b ≤ 9223372036854775807) (c : Int) (c1 : -9223372036854775808 ≤ c) (c2 : c ≤ 9223372036854775807) (d : Int) (d1 : -9223372036854775808 ≤ d) (d2 : d ≤ 9223372036854775807) (x : Raw) (hx : x.Ok) (xlv : Value) (hl : RawL w x.l xlv) (ae : Addr) (hE : Env ae w) :
    Calls Tryz.prog 5 #[.int .i64 a, .int .i64 b, .int .i64 c, .int .i64 d, .agg #[.int .i64 x.k, .int .i64 x.n, .string x.s, xlv]] w fun e w' => e = .returned (.bool true) ∧ Below w.heap.size w w' := fitslaw_any ae a b c d a1 a2 b1 b2 c1 c2 d1 d2 x hx w xlv hl hE
end Go.Proofs.YtlcmphoamoiemaaGreatDoor.Val
end
