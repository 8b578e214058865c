/- Layer 3: Compare and Same, walked. -/
import Derived.Test.YtlcmphoamoiemaaGreatDoorValCmp2
namespace Go.Proofs.YtlcmphoamoiemaaGreatDoor.Val
open Go.RowKit
open Kit (ret_int ret_bool)

theorem or3_if (a b c d : Int) : (if a ≠ 0 then a else if b ≠ 0 then b else if c ≠ 0 then c else d) = if or3 a b c ≠ 0 then or3 a b c else d := by
  unfold or3
  by_cases h1 : a = 0 <;> by_cases h2 : b = 0 <;> by_cases h3 : c = 0 <;> simp [h1, h2, h3]
theorem cmpV_or (x y : Vl) : cmpV x y = if or3 (cmpI x.k y.k) (cmpI x.n y.n) (cmpS x.s y.s) ≠ 0 then or3 (cmpI x.k y.k) (cmpI x.n y.n) (cmpS x.s y.s) else cmpL x.l y.l := by
  cases x; cases y
  rw [cmpV]; exact or3_if _ _ _ _

theorem or_eq {a b c O : Int} (hO : O = or3 a b c) (g : Nat) (w : World) (h0 : w.cell? ⟨g, 0, none⟩ = some (.int .i64 a)) (h1 : w.cell? ⟨g, 1, none⟩ = some (.int .i64 b)) (h2 : w.cell? ⟨g, 2, none⟩ = some (.int .i64 c)) :
    Calls Tryz.prog 52 #[.slice (some ⟨g, 0, none⟩) 3 3] w fun e w' => e = .returned (.int .i64 O) ∧ w = w' := by
  rw [hO]; exact or_any a b c g w h0 h1 h2

set_option maxRecDepth 100000 in
set_option maxHeartbeats 1000000 in
theorem cmp_step (x y : Vl) (hx : ∀ z ∈ x.l, CmpAt z) (B : Nat) (w : World) (vx vy : Value) (hB : B ≤ w.heap.size) (h1 : Rep B w x vx) (h2 : Rep B w y vy) :
    Calls Tryz.prog 22 #[vx, vy] w fun e w' => e = .returned (.int .i64 (cmpV x y)) ∧ Below w.heap.size w w' := by
  obtain ⟨lx, rfl, hlx⟩ := rep_of h1
  obtain ⟨ly, rfl, hly⟩ := rep_of h2
  have HCV := Lib.hid (cmpV_or x y)
  obtain ⟨O, hO⟩ : ∃ O, O = or3 (cmpI x.k y.k) (cmpI x.n y.n) (cmpS x.s y.s) := ⟨_, rfl⟩
  rw [← hO] at HCV
  obtain ⟨W0, hW0⟩ : ∃ W0, W0 = (w.alloc (.cells #[.int .i64 x.k, .int .i64 x.n, .string x.s, lx] 30)).alloc (.cells #[.int .i64 y.k, .int .i64 y.n, .string y.s, ly] 30) := ⟨_, rfl⟩
  have hBw : Below w.heap.size w W0 := by rw [hW0]; exact Kit.below_alloc2 _ _ _
  obtain ⟨p0, p1, p2, p3⟩ : Kit.Box4 W0 w.heap.size (.int .i64 x.k) (.int .i64 x.n) (.string x.s) lx := by rw [hW0]; exact (Kit.box4_new _ _ _ _ _ _).kept _
  obtain ⟨q0, q1, q2, q3⟩ : Kit.Box4 W0 (w.heap.size + 1) (.int .i64 y.k) (.int .i64 y.n) (.string y.s) ly := by rw [hW0]; have h := Kit.box4_new (w.alloc (.cells #[.int .i64 x.k, .int .i64 x.n, .string x.s, lx] 30)) (.int .i64 y.k) (.int .i64 y.n) (.string y.s) ly 30; rw [World.size_alloc] at h; exact h
  have HL := Lib.hid (fun W (hW : Below w.heap.size w W) => lists_any x.l y.l hx B W lx ly (by have := hW.size; omega) (hlx.below hW hB) (hly.below hW hB))
  have HO := Lib.hid hO
  clear h1 h2 hlx hly hx hO
  go_enter Tryz.func22, Tryz.ntmps22
  go_wp2
  change Code.wp _ _ _ _ ((w.alloc (.cells #[.int .i64 x.k, .int .i64 x.n, .string x.s, lx] 30)).alloc (.cells #[.int .i64 y.k, .int .i64 y.n, .string y.s, ly] 30))
  rw [← hW0]
  clear hW0
  refine wp_region_still_tail 15 (by kernel_rfl) (by kernel_rfl) ?_
  simp only [List.take_succ_cons, List.take_zero, List.drop_succ_cons, List.drop_zero]
  repeat (first | still_step | still_call ((cmp_int _ _ _).mono fun _ _ h => ⟨h.1, h.2.symm⟩) | still_call ((cmp_str _ _ _).mono fun _ _ h => ⟨h.1, h.2.symm⟩))
  refine wpStill_nil ?_
  change wpList _ _ _ _ _ W0.drew
  have hz1 : w.heap.size < W0.heap.size := Kit.lt_of_cell p3
  have hz2 : w.heap.size + 1 < W0.heap.size := Kit.lt_of_cell q3
  clear p0 p1 p2 q0 q1 q2
  by_cases hc : O = 0
  · have hc2 : (O != 0) = false := by simpa using hc
    have HC := Lib.hid hc
    clear hc
    go_wp2_with (go_at_call 52; refine (or_eq HO.out _ _ ?_ ?_ ?_).mono ?_; exact Kit.cell_drew (Kit.cell_new _ _ _ 0 rfl); exact Kit.cell_drew (Kit.cell_new _ _ _ 1 rfl); exact Kit.cell_drew (Kit.cell_new _ _ _ 2 rfl); rintro e w' ⟨rfl, rfl⟩)
    refine (HL.out _ ?_).mono ?_
    · exact (hBw.alloc (by omega) _).drew
    · rintro e w' ⟨rfl, hB2⟩
      go_wp2
      go_ret
      exact ⟨ret_int (by rw [HCV.out, if_neg (by rw [HC.out]; simp)]), ((hBw.alloc (by omega) _).drew).trans (hB2.mono (by simp; omega))⟩
  · have hc2 : (O != 0) = true := by simpa using hc
    have HC := Lib.hid hc
    clear hc
    go_wp2_with (go_at_call 52; refine (or_eq HO.out _ _ ?_ ?_ ?_).mono ?_; exact Kit.cell_drew (Kit.cell_new _ _ _ 0 rfl); exact Kit.cell_drew (Kit.cell_new _ _ _ 1 rfl); exact Kit.cell_drew (Kit.cell_new _ _ _ 2 rfl); rintro e w' ⟨rfl, rfl⟩)
    go_ret
    exact ⟨ret_int (by rw [HCV.out, if_pos HC.out]), (hBw.alloc (by omega) _).drew⟩

/-- Compare, of any values. -/
theorem compare_all : ∀ x : Vl, CmpAt x
  | .mk k n s l => fun y B W vx vy hB h1 h2 => cmp_step (.mk k n s l) y (fun z _hz => compare_all z) B W vx vy hB h1 h2
termination_by x => SizeOf.sizeOf x
decreasing_by
  have := List.sizeOf_lt_of_mem _hz
  simp only [Vl.l, Vl.mk.sizeOf_spec] at this ⊢
  omega
theorem compare_any (x y : Vl) (B : Nat) (W : World) (vx vy : Value) (hB : B ≤ W.heap.size) (h1 : Rep B W x vx) (h2 : Rep B W y vy) :
    Calls Tryz.prog 22 #[vx, vy] W fun e w' => e = .returned (.int .i64 (cmpV x y)) ∧ Below W.heap.size W w' := compare_all x y B W vx vy hB h1 h2
end Go.Proofs.YtlcmphoamoiemaaGreatDoor.Val
