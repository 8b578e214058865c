/- Layer 4: RightType, right fields, where a field stands. -/
import Derived.Test.YtmobnlofbopbeaaDoorClass
import Derived.Deep.RegionHeld3
namespace Go.Proofs.YtmobnlofbopbeaaDoor.Cls
open Go.RowKit
open Kit (ret_int ret_bool Moved)
open Val (Env flat bs Vl Rep RepL)

attribute [local go_sem] Oper.semAt_some

set_option maxRecDepth 100000 in
theorem RightType_any (ae : Addr) (K O : Int) (w : World) (hE : Env ae w) : Calls Tryd.prog 16 #[.agg #[.int .i64 K, .int .i64 O]] w fun e w' => e = .returned (.bool (Val.rightTy K O)) ∧ Below w.heap.size w w' := by
  have hb := Kit.below_alloc w (.cells #[.int .i64 K, .int .i64 O] 44)
  have c1 := Kit.cell_new w #[.int .i64 K, .int .i64 O] 44 0 rfl
  have c2 := Kit.cell_new w #[.int .i64 K, .int .i64 O] 44 1 rfl
  have hE1 := hE.below (hb.trans ((Below.refl _ _).drew.mono hb.size))
  have HF := Lib.hid (fun (w2 : World) (h : Below (w.alloc (.cells #[.int .i64 K, .int .i64 O] 44)).drew.heap.size (w.alloc (.cells #[.int .i64 K, .int .i64 O] 44)).drew w2) => fits_zero K O ▸ Val.fits_any ae (Val.zeroV K O) (zero_fits K O) K O w2.heap.size w2 _ (Nat.le_refl _) (hE1.below h) (zero_rep K O))
  clear hE hE1
  go_enter Tryd.func16, Tryd.ntmps16
  go_wp2_with fail
  have hB := Lib.hid hb
  clear hb
  generalize w.alloc (.cells #[.int .i64 K, .int .i64 O] 44) = W at *
  go_region_held3 (fun w' => w'.cell? ⟨w.heap.size, 0, none⟩ = some (.int .i64 K) ∧ w'.cell? ⟨w.heap.size, 1, none⟩ = some (.int .i64 O))
    (first
      | exact ⟨c1, c2⟩
      | exact ⟨(hB2.cell (p := ⟨w.heap.size, 0, none⟩) (Kit.lt_of_cell c1)).trans c1, (hB2.cell (p := ⟨w.heap.size, 1, none⟩) (Kit.lt_of_cell c2)).trans c2⟩
      | exact ⟨(hB3.cell (p := ⟨w.heap.size, 0, none⟩) (Kit.lt_of_cell ((hB2.cell (p := ⟨w.heap.size, 0, none⟩) (Kit.lt_of_cell c1)).trans c1))).trans ((hB2.cell (p := ⟨w.heap.size, 0, none⟩) (Kit.lt_of_cell c1)).trans c1), (hB3.cell (p := ⟨w.heap.size, 1, none⟩) (Kit.lt_of_cell ((hB2.cell (p := ⟨w.heap.size, 1, none⟩) (Kit.lt_of_cell c2)).trans c2))).trans ((hB2.cell (p := ⟨w.heap.size, 1, none⟩) (Kit.lt_of_cell c2)).trans c2)⟩)
    (first
      | (go_at_call 35; refine (Val.zero_any K O _).mono ?_; rintro e w2 ⟨rfl, hB2⟩)
      | (go_at_call 20; refine (HF.out _ hB2).mono ?_; rintro e w3 ⟨rfl, hB3⟩))
  go_wp2
  go_ret
  exact ⟨rfl, hB.out.drew.trans ((hB2.mono hB.out.size).trans (hB3.mono (Nat.le_trans hB.out.size hB2.size)))⟩
end Go.Proofs.YtmobnlofbopbeaaDoor.Cls
