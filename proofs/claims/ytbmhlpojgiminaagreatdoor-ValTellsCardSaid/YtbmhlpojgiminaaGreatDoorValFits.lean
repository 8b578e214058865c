/- Layer 3: types; what fits them; the least of them. -/
import Derived.Test.YtbmhlpojgiminaaGreatDoorBox
import Derived.Test.YtbmhlpojgiminaaGreatDoorValRight
import Derived.Deep.RegionHeld3
import Derived.Deep.RegionHeld
namespace Go.Proofs.YtbmhlpojgiminaaGreatDoor.Val
open Go.RowKit
open Kit (ret_int ret_bool)

attribute [local go_sem] Oper.semAt_some

/-- May a list's values be of a kind? -/
def inK (k : Int) : Bool := decide (1 ≤ k) && decide (k ≤ 4)
def isRefK (k : Int) : Bool := k == 3 || k == 4
/-- Is a type right? -/
def rightTy (K O : Int) : Bool := if K = 5 then inK O else inK K && O == 0
def fitsK (k K : Int) : Bool := k == K || (k == 0 && isRefK K)
/-- Does a value fit a type? -/
def fitsV (v : Vl) (K O : Int) : Bool := rightTy K O && (rightV v && (fitsK v.k K && v.l.all fun y => fitsK y.k O))
/-- The least value of a type. -/
def zeroV (K O : Int) : Vl := if rightTy K O = false ∨ isRefK K = true then flat 0 0 ⟨#[]⟩ else flat K 0 ⟨#[]⟩

theorem inList_any (k : Int) (w : World) : Calls Tryz.prog 75 #[.int .i64 k] w fun e w' => e = .returned (.bool (inK k)) ∧ w = w' := by
  unfold inK
  by_cases a : 1 ≤ k
  · rw [decide_eq_true a, Bool.true_and]
    go_enter Tryz.func75, Tryz.ntmps75
    go_wp2
    go_ret
    exact ⟨rfl, rfl⟩
  · rw [decide_eq_false a, Bool.false_and]
    go_enter Tryz.func75, Tryz.ntmps75
    go_wp2
    go_ret
    exact ⟨rfl, rfl⟩

theorem isReference_any (k : Int) (w : World) : Calls Tryz.prog 52 #[.int .i64 k] w fun e w' => e = .returned (.bool (isRefK k)) ∧ w = w' := by
  unfold isRefK
  cases a : k == 3
  · rw [Bool.false_or]
    go_enter Tryz.func52, Tryz.ntmps52
    go_wp2
    go_ret
    exact ⟨rfl, rfl⟩
  · rw [Bool.true_or]
    go_enter Tryz.func52, Tryz.ntmps52
    go_wp2
    go_ret
    exact ⟨rfl, rfl⟩

theorem rightType_any (K O : Int) (w : World) : Calls Tryz.prog 48 #[.agg #[.int .i64 K, .int .i64 O]] w fun e w' => e = .returned (.bool (rightTy K O)) ∧ Below w.heap.size w w' := by
  unfold rightTy
  by_cases h : K = 5
  · subst h
    rw [if_pos rfl]
    go_enter Tryz.func48, Tryz.ntmps48
    go_wp2_with fail
    refine (inList_any _ _).mono ?_; rintro e w' ⟨rfl, rfl⟩
    go_wp2
    go_ret
    exact ⟨rfl, Kit.below_alloc _ _⟩
  · rw [if_neg h]
    have h5 : (K == 5) = false := beq_eq_false_iff_ne.2 h
    clear h
    cases hk : inK K
    · rw [Bool.false_and]
      go_enter Tryz.func48, Tryz.ntmps48
      go_wp2_with fail
      refine (inList_any _ _).mono ?_; rintro e w' ⟨rfl, rfl⟩
      rw [hk]
      go_wp2
      go_ret
      exact ⟨rfl, Kit.below_alloc _ _⟩
    · rw [Bool.true_and]
      go_enter Tryz.func48, Tryz.ntmps48
      go_wp2_with fail
      refine (inList_any _ _).mono ?_; rintro e w' ⟨rfl, rfl⟩
      rw [hk]
      go_wp2
      go_ret
      exact ⟨rfl, Kit.below_alloc _ _⟩

theorem fitsKind_any (k n : Int) (s : ByteArray) (lv : Value) (K : Int) (w : World) : Calls Tryz.prog 49 #[aggV k n s lv, .int .i64 K] w fun e w' => e = .returned (.bool (fitsK k K)) ∧ Below w.heap.size w w' := by
  unfold fitsK
  cases a : k == K
  · rw [Bool.false_or]
    cases b : k == 0
    · rw [Bool.false_and]
      go_enter Tryz.func49, Tryz.ntmps49
      go_wp2
      go_ret
      exact ⟨rfl, Kit.below_alloc _ _⟩
    · rw [Bool.true_and]
      go_enter Tryz.func49, Tryz.ntmps49
      go_wp2_with fail
      refine (isReference_any _ _).mono ?_; rintro e w' ⟨rfl, rfl⟩
      go_wp2
      go_ret
      exact ⟨rfl, Kit.below_alloc _ _⟩
  · rw [Bool.true_or]
    go_enter Tryz.func49, Tryz.ntmps49
    go_wp2
    go_ret
    exact ⟨rfl, Kit.below_alloc _ _⟩

set_option maxRecDepth 100000 in
set_option maxHeartbeats 1000000 in
theorem zero_any (K O : Int) (w : World) : Calls Tryz.prog 25 #[.agg #[.int .i64 K, .int .i64 O]] w fun e w' => e = .returned (flatV (zeroV K O).k 0 ⟨#[]⟩) ∧ Below w.heap.size w w' := by
  have HT := Lib.hid (rightType_any K O ((w.alloc (.cells #[.int .i64 K, .int .i64 O] 26)).alloc (.cells #[.int .i64 0, .int .i64 0, .string ⟨#[]⟩, .slice none 0 0] 30)))
  have hB0 := Kit.below_alloc2 w (.cells #[.int .i64 K, .int .i64 O] 26) (.cells #[.int .i64 0, .int .i64 0, .string ⟨#[]⟩, .slice none 0 0] 30)
  have F0 := boxF_new (w.alloc (.cells #[.int .i64 K, .int .i64 O] 26)) (.int .i64 0) (.int .i64 0) (.string ⟨#[]⟩) (.slice none 0 0) 30
  rw [World.size_alloc] at F0
  have C0 := Kit.cell_kept (.cells #[.int .i64 0, .int .i64 0, .string ⟨#[]⟩, .slice none 0 0] 30) (Kit.cell_new w #[.int .i64 K, .int .i64 O] 26 0 rfl)
  have H0 := Lib.hid (And.intro hB0 (And.intro F0 C0))
  clear hB0 F0 C0
  unfold zeroV
  cases hr : rightTy K O
  case' true => cases hk : isRefK K
  case' true.false => rw [if_neg (by simp)]
  case' true.true => rw [if_pos (.inr rfl)]
  case' false => rw [if_pos (.inl rfl)]
  all_goals
    rw [hr] at HT
    clear hr
    go_enter Tryz.func25, Tryz.ntmps25
    go_wp2_with fail
    refine HT.out.mono ?_; rintro e w' ⟨rfl, hB⟩
    have F1 := H0.out.2.1.moved (Kit.Moved.of_below hB) (by simp)
    have c0 := (hB.cell (p := ⟨w.heap.size, 0, none⟩) (by simp; omega)).trans H0.out.2.2
    have B1 := Lib.hid (H0.out.1.trans (hB.mono H0.out.1.size))
    obtain ⟨⟨y0, y1, y2, y3⟩, yf⟩ := F1
    have yf0 := yf 0
    have yf1 := yf 1
    have yf2 := yf 2
    have yf3 := yf 3
    have hsz : w.heap.size + 2 ≤ w'.heap.size := by have := hB.size; simpa using this
    have HZ := Lib.hid hsz
    clear yf hB HT hsz
    go_wp2_with fail
    first
    | (refine (isReference_any K _).mono ?_; rintro e w2 ⟨rfl, rfl⟩; rw [hk]; go_wp2)
    | skip
    first
    | exact bodyPost_ret (v := flatV 0 0 ⟨#[]⟩) (by simp [results, Tryz.results25, go_sem, y0, y1, y2, y3]) rfl ⟨rfl, B1.out.trans ((end4b (w.heap.size + 1) w' _ _ _ _).below (fun j hj => by omega) (by have := HZ.out; omega))⟩
    | exact bodyPost_ret (v := flatV K 0 ⟨#[]⟩) (by simp [results, Tryz.results25, go_sem, y0, y1, y2, y3]) rfl ⟨rfl, B1.out.trans ((end4b (w.heap.size + 1) w' _ _ _ _).below (fun j hj => by omega) (by have := HZ.out; omega))⟩

/-- Do all from k on fit? -/
theorem all_at {l : List Vl} {O : Int} {k : Nat} (_h : ∀ i x, i < k → l[i]? = some x → fitsK x.k O = true) {x : Vl} (hx : l[k]? = some x) (hf : fitsK x.k O = false) : (l.all fun y => fitsK y.k O) = false := by
  rw [List.all_eq_false]
  exact ⟨x, List.mem_of_getElem? hx, by rw [hf]; simp⟩
theorem all_end {l : List Vl} {O : Int} (h : ∀ i x, i < l.length → l[i]? = some x → fitsK x.k O = true) : (l.all fun y => fitsK y.k O) = true := by
  rw [List.all_eq_true]
  intro x hx
  obtain ⟨i, hi, rfl⟩ := List.getElem_of_mem hx
  exact h i _ hi (List.getElem?_eq_getElem hi)

set_option maxRecDepth 100000 in
set_option maxHeartbeats 2000000 in
/-- Fits. -/
theorem fits_any (ae : Addr) (x : Vl) (hf : x.fits) (K O : Int) (B : Nat) (w : World) (v : Value) (hB : B ≤ w.heap.size) (hE : Env ae w) (hr : Rep B w x v) :
    Calls Tryz.prog 23 #[v, .agg #[.int .i64 K, .int .i64 O]] w fun e w' => e = .returned (.bool (fitsV x K O)) ∧ Below w.heap.size w w' := by
  obtain ⟨lv, rfl, hl⟩ := rep_of hr
  obtain ⟨a1, c1, rfl, z1⟩ := hl.len
  unfold maxLen at z1
  have hB0 := Kit.below_alloc2 w (.cells #[.int .i64 x.k, .int .i64 x.n, .string x.s, .slice a1 x.l.length c1] 30) (.cells #[.int .i64 K, .int .i64 O] 26)
  have P0 := (Kit.box4_new w (.int .i64 x.k) (.int .i64 x.n) (.string x.s) (.slice a1 x.l.length c1) 30).kept (.cells #[.int .i64 K, .int .i64 O] 26)
  have C0 := Kit.cell_new (w.alloc (.cells #[.int .i64 x.k, .int .i64 x.n, .string x.s, .slice a1 x.l.length c1] 30)) #[.int .i64 K, .int .i64 O] 26 0 rfl
  have C1 := Kit.cell_new (w.alloc (.cells #[.int .i64 x.k, .int .i64 x.n, .string x.s, .slice a1 x.l.length c1] 30)) #[.int .i64 K, .int .i64 O] 26 1 rfl
  rw [World.size_alloc] at C0 C1
  have hR := fun W (h : Below w.heap.size w W) => right_any ae x hf B W _ (by have := h.size; omega) (hE.below h) (hr.below h hB)
  have H := Lib.hid (And.intro hB0 (And.intro P0 (And.intro C0 C1)))
  have HL := Lib.hid (And.intro hB hl)
  have HR := Lib.hid hR
  clear hB0 P0 C0 C1 hR hl hr hE hf hB
  go_enter Tryz.func23, Tryz.ntmps23
  go_wp2_with fail
  refine (rightType_any K O _).mono ?_; rintro e w1 ⟨rfl, hB1⟩
  cases ht : rightTy K O
  · go_wp2
    go_ret
    exact ⟨ret_bool (by unfold fitsV; rw [ht]; rfl), H.out.1.trans (hB1.mono H.out.1.size)⟩
  · have B1 := Lib.hid (H.out.1.trans (hB1.mono H.out.1.size))
    have P1 := Lib.hid (H.out.2.1.below hB1 (by simp; omega))
    have D1 := Lib.hid (And.intro ((hB1.cell (p := ⟨w.heap.size + 1, 0, none⟩) (by simp)).trans H.out.2.2.1) ((hB1.cell (p := ⟨w.heap.size + 1, 1, none⟩) (by simp)).trans H.out.2.2.2))
    obtain ⟨p0, p1, p2, p3⟩ := P1.out
    have HT := Lib.hid ht
    clear hB1 ht H
    go_wp2_with fail
    refine (HR.out _ B1.out).mono ?_; rintro e w2 ⟨rfl, hB2⟩
    have B2 := Lib.hid (B1.out.trans (hB2.mono B1.out.size))
    have P2 := Lib.hid (P1.out.below hB2 P1.out.lt)
    have D2 := Lib.hid (And.intro ((hB2.cell (p := ⟨w.heap.size + 1, 0, none⟩) (Kit.lt_of_cell D1.out.1)).trans D1.out.1) ((hB2.cell (p := ⟨w.heap.size + 1, 1, none⟩) (Kit.lt_of_cell D1.out.2)).trans D1.out.2))
    clear hB2 HR B1 P1 D1 p0 p1 p2 p3
    cases hv : rightV x
    · go_wp2
      go_ret
      exact ⟨ret_bool (by unfold fitsV; rw [hv, HT.out]; rfl), B2.out⟩
    · obtain ⟨p0, p1, p2, p3⟩ := P2.out
      obtain ⟨d0, d1⟩ := D2.out
      have HV := Lib.hid hv
      clear hv
      go_wp2_with fail
      refine (fitsKind_any x.k x.n x.s _ K _).mono ?_; rintro e w3 ⟨rfl, hB3⟩
      have B3 := Lib.hid (B2.out.trans (hB3.mono B2.out.size))
      have P3 := Lib.hid (P2.out.below hB3 P2.out.lt)
      have D3 := Lib.hid (And.intro ((hB3.cell (p := ⟨w.heap.size + 1, 0, none⟩) (Kit.lt_of_cell D2.out.1)).trans D2.out.1) ((hB3.cell (p := ⟨w.heap.size + 1, 1, none⟩) (Kit.lt_of_cell D2.out.2)).trans D2.out.2))
      clear hB3 B2 P2 D2 p0 p1 p2 p3 d0 d1
      cases hk : fitsK x.k K
      · go_wp2
        go_ret
        exact ⟨ret_bool (by unfold fitsV; rw [HV.out, HT.out, hk]; rfl), B3.out⟩
      · have HFV := Lib.hid (show fitsV x K O = x.l.all fun y => fitsK y.k O by unfold fitsV; rw [HV.out, HT.out, hk]; rfl)
        obtain ⟨p0, p1, p2, p3⟩ := P3.out
        clear hk
        have hz3 : w.heap.size + 1 < w3.heap.size := Kit.lt_of_cell D3.out.2
        go_wp2
        go_loopw [6, 25] (fun _ j wr => ∃ k : Nat, k ≤ x.l.length ∧ j = .int .i64 k ∧ Below w3.heap.size w3 wr ∧ ∀ i y, i < k → x.l[i]? = some y → fitsK y.k O = true) (fun _ j _ => x.l.length - (intOf j).toNat)
        case atStart => exact ⟨0, by omega, rfl, Below.refl _ _, by omega⟩
        case round =>
          obtain ⟨k, hk, rfl, hBr, hz⟩ := hrel
          have HZ := Lib.hid hz; clear hz
          have hsz := hBr.size
          have hBW := B3.out.trans (hBr.mono B3.out.size)
          by_cases hlt : k < x.l.length
          · obtain ⟨y, hy⟩ : ∃ y, x.l[k]? = some y := ⟨_, List.getElem?_eq_getElem (by omega)⟩
            obtain ⟨b1, o1, d1, lw1, e1, hb1, ⟨q0, q1, q2, q3⟩, hl1⟩ := (HL.out.2.below hBW HL.out.1).at hy
            cases e1
            have d1 := (hBr.cell (p := ⟨w.heap.size + 1, 1, none⟩) hz3).trans D3.out.2
            have i1 : (0 : Int) ≤ (k : Int) := by omega
            have i2 : (k : Int) < (x.l.length : Int) := by omega
            have HY := Lib.hid hy
            have D4 := Lib.hid d1
            obtain ⟨a3, c3, rfl, z3⟩ := hl1.len
            clear hl1 hy z3
            have e1 := Kit.cell_kept (.cells #[.int .i64 y.k, .int .i64 y.n, .string y.s, .slice a3 y.l.length c3] 30) d1
            go_wp2_with fail
            refine (fitsKind_any y.k y.n y.s _ O _).mono ?_; rintro e w4 ⟨rfl, hB4⟩
            have B4 := Lib.hid ((Kit.below_alloc wr (.cells #[.int .i64 y.k, .int .i64 y.n, .string y.s, .slice a3 y.l.length c3] 30)).trans (hB4.mono (by simp)))
            clear hB4 e1 q0 q1 q2 q3
            cases hc : fitsK y.k O
            · have HF := Lib.hid (all_at HZ.out HY.out hc)
              clear hc
              go_wp2
              go_ret
              exact ⟨ret_bool (by rw [HFV.out, HF.out]), hBW.trans (B4.out.mono hBW.size)⟩
            · have HC := Lib.hid hc
              clear hc
              go_wp2
              go_roundw
              case rel =>
                refine ⟨k + 1, by omega, by go_num, hBr.trans (B4.out.mono hsz), fun i a hi ha => ?_⟩
                rcases Nat.lt_or_ge i k with h | h
                · exact HZ.out i a h ha
                · obtain rfl : i = k := by omega
                  rw [HY.out] at ha; cases ha
                  exact HC.out
              case measure => simp [intOf]; omega
          · have hkl : k = x.l.length := by omega
            subst hkl
            have HF := Lib.hid (all_end HZ.out)
            go_wp2
            go_ret
            exact ⟨ret_bool (by rw [HFV.out, HF.out]), hBW⟩
end Go.Proofs.YtbmhlpojgiminaaGreatDoor.Val
