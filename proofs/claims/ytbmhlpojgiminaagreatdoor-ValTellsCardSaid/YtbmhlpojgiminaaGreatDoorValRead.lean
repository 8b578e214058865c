/- Layer 3: Read. -/
import Derived.Test.YtbmhlpojgiminaaGreatDoorMJ
import Derived.Test.YtbmhlpojgiminaaGreatDoorValDec
import Derived.StillTailTactics
namespace Go.Proofs.YtbmhlpojgiminaaGreatDoor.Val
open Go.RowKit
open Kit (ret_int ret_bool Moved)

/-- What is written at a place: the value, whether it is right, and the place behind. -/
def readAt (s : ByteArray) (a : Nat) : (Vl × Bool) × Nat := if hereN s a = 91 then lstN s (stepN s a) else itemN s a
/-- What Read answers: a value and the place behind it, or an error. -/
def readR (s : ByteArray) (a : Int) : Int ⊕ (Vl × Int) :=
  if 0 ≤ a ∧ a ≤ s.size then (if (readAt s a.toNat).1.2 then .inr ((readAt s a.toNat).1.1, ((readAt s a.toNat).2 : Int)) else .inl 30) else .inl 2
def ReadPost (n : Nat) (a : Int) (r : Int ⊕ (Vl × Int)) (e : Ending) (w' : World) : Prop :=
  match r with
  | .inl er => e = .returned (.tuple #[flatV 0 0 (bs []), .int .i64 a, .int .i64 er])
  | .inr (x, t) => ∃ lv, e = .returned (.tuple #[aggV x.k x.n x.s lv, .int .i64 t, .int .i64 0]) ∧ RepL w'.heap.size w' x.l lv ∧ Fresh n lv
theorem readAt_flat (s : ByteArray) (a : Nat) : ∀ y ∈ (readAt s a).1.1.l, y.isFlat := by
  unfold readAt
  split
  · exact lstN_flat s _
  · intro y hy
    rw [show (itemN s a).1.1.l = [] from itemN_flat s a] at hy
    cases hy

set_option maxRecDepth 100000 in
set_option maxHeartbeats 1000000 in
theorem Read_any (ae : Addr) (s : ByteArray) (hs : s.size ≤ 140737488351232) (a : Int) (w : World) (hE : Env ae w) :
    Calls Tryz.prog 27 #[.string s, .int .i64 a] w fun e w' => ReadPost w.heap.size a (readR s a) e w' ∧ Below w.heap.size w w' := by
  have HP := Lib.hid (isPlace_any s a)
  by_cases hin : 0 ≤ a ∧ a ≤ s.size
  · obtain ⟨h0, h1⟩ := hin
    have hd : (decide (0 ≤ a) && decide (a ≤ (s.size : Int))) = true := by rw [decide_eq_true h0, decide_eq_true h1]; rfl
    rw [hd] at HP
    obtain ⟨p, rfl⟩ := Int.eq_ofNat_of_zero_le h0
    have hB0 := Kit.below_alloc w (.cells #[.int .i64 0, .int .i64 0, .string ⟨#[]⟩, .slice none 0 0] 30)
    have HN := Lib.hid (newRunes_any ae s hs p (by omega) _ (hE.below hB0))
    have HX := Lib.hid (boxF_new w (.int .i64 0) (.int .i64 0) (.string ⟨#[]⟩) (.slice none 0 0) 30)
    have HB0 := Lib.hid hB0
    have hR : readR s p = if (readAt s p).1.2 then .inr ((readAt s p).1.1, ((readAt s p).2 : Int)) else .inl 30 := by unfold readR; rw [if_pos ⟨h0, h1⟩, Int.toNat_natCast]
    rw [hR]
    have hfl := readAt_flat s p
    clear hE hd hR hB0
    generalize hdv : readAt s p = D
    obtain ⟨⟨x, ok⟩, t⟩ := D
    rw [hdv] at hfl
    dsimp only at hfl ⊢
    have HD := Lib.hid hdv
    have HFL := Lib.hid hfl
    clear hdv hfl
    cases ok
    · go_enter Tryz.func27, Tryz.ntmps27
      go_wp2_with fail
      refine (HP.out _).mono ?_; rintro e w' ⟨rfl, rfl⟩
      go_wp2_with fail
      refine HN.out.mono ?_; rintro e w1 ⟨rfl, hRT⟩
      have hR1 := hRT.later (Kit.below_alloc w1 (.cells #[rf3 (w.heap.size + 1 + 3), rf4 (w.heap.size + 1 + 3) (w.heap.size + 1 + 1), rf5 (w.heap.size + 1 + 1)] 69))
      rw [World.size_alloc] at hRT hR1
      have hlL := hRT.boxL.lt
      have hlA := hRT.boxA.lt
      have HB1 := Lib.hid hRT.below
      have HV := Lib.hid (value_read _ _ _ _ _ _ _ _ hR1)
      rw [show (if hereN s p = 91 then lstN s (stepN s p) else itemN s p) = readAt s p from rfl, HD.out] at HV
      unfold LstPost at HV
      dsimp only at HV
      have hr2 : (w1.alloc (.cells #[rf3 (w.heap.size + 1 + 3), rf4 (w.heap.size + 1 + 3) (w.heap.size + 1 + 1), rf5 (w.heap.size + 1 + 1)] 69)).cell? ⟨w1.heap.size, 2, none⟩ = some (rf5 (w.heap.size + 1 + 1)) := Kit.cell_new _ _ _ 2 rfl
      have HR2 := Lib.hid hr2
      clear hRT hR1 hr2
      go_wp2_with fail
      refine HV.out.mono ?_
      rintro e w2 ⟨⟨lv, rfl, hL, hF⟩, hR3, hM⟩
      obtain ⟨a3, c3, rfl, z3⟩ := hL.len
      have r2 := cell_moved HR2.out hM (by omega)
      have hR4 := hR3.later (Kit.below_alloc w2 (.cells #[.int .i64 x.k, .int .i64 x.n, .string x.s, .slice a3 x.l.length c3] 30))
      have HA := Lib.hid hR4.boxA.cell
      have hz1 := hM.size
      rw [World.size_alloc] at hz1
      have hz0 := HB1.out.size
      rw [World.size_alloc] at hz0
      have hB2 : Below w.heap.size w w2 := ((HB0.out.trans (HB1.out.mono (by simp))).alloc (by omega) (.cells #[rf3 (w.heap.size + 1 + 3), rf4 (w.heap.size + 1 + 3) (w.heap.size + 1 + 1), rf5 (w.heap.size + 1 + 1)] 69)).trans (hM.below (fun j hj => by omega) (by simp; omega))
      have hX2 := ((((HX.out.moved (Kit.Moved.of_below HB1.out) (by simp)).alloc (.cells #[rf3 (w.heap.size + 1 + 3), rf4 (w.heap.size + 1 + 3) (w.heap.size + 1 + 1), rf5 (w.heap.size + 1 + 1)] 69)).moved hM (by omega)))
      obtain ⟨⟨y0, y1, y2, y3⟩, yf⟩ := hX2
      have yf0 := yf 0
      have yf1 := yf 1
      have yf2 := yf 2
      have yf3 := yf 3
      have HL := Lib.hid (And.intro hL (And.intro hB2 (And.intro z3 hF)))
      have hlt : w1.heap.size < w2.heap.size := by omega
      have hlt2 : w.heap.size < w2.heap.size := by omega
      clear hL hR3 hR4 hM hz1 z3 hB2 hF yf
      go_wp2
      refine bodyPost_ret (v := .tuple #[flatV 0 0 (bs []), .int .i64 (p : Int), .int .i64 30]) (by simp [results, Tryz.results27, go_sem, y0, y1, y2, y3, hlt2]) rfl ⟨rfl, ?_⟩
      exact (HL.out.2.1.trans ((end4 (Nat.le_refl _) w2 _ _ _ _).below (fun _ h => h) (by omega))).alloc (by simp; omega) _
    · go_enter Tryz.func27, Tryz.ntmps27
      go_wp2_with fail
      refine (HP.out _).mono ?_; rintro e w' ⟨rfl, rfl⟩
      go_wp2_with fail
      refine HN.out.mono ?_; rintro e w1 ⟨rfl, hRT⟩
      have hR1 := hRT.later (Kit.below_alloc w1 (.cells #[rf3 (w.heap.size + 1 + 3), rf4 (w.heap.size + 1 + 3) (w.heap.size + 1 + 1), rf5 (w.heap.size + 1 + 1)] 69))
      rw [World.size_alloc] at hRT hR1
      have hlL := hRT.boxL.lt
      have hlA := hRT.boxA.lt
      have HB1 := Lib.hid hRT.below
      have HV := Lib.hid (value_read _ _ _ _ _ _ _ _ hR1)
      rw [show (if hereN s p = 91 then lstN s (stepN s p) else itemN s p) = readAt s p from rfl, HD.out] at HV
      unfold LstPost at HV
      dsimp only at HV
      have hr2 : (w1.alloc (.cells #[rf3 (w.heap.size + 1 + 3), rf4 (w.heap.size + 1 + 3) (w.heap.size + 1 + 1), rf5 (w.heap.size + 1 + 1)] 69)).cell? ⟨w1.heap.size, 2, none⟩ = some (rf5 (w.heap.size + 1 + 1)) := Kit.cell_new _ _ _ 2 rfl
      have HR2 := Lib.hid hr2
      clear hRT hR1 hr2
      go_wp2_with fail
      refine HV.out.mono ?_
      rintro e w2 ⟨⟨lv, rfl, hL, hF⟩, hR3, hM⟩
      obtain ⟨a3, c3, rfl, z3⟩ := hL.len
      have r2 := cell_moved HR2.out hM (by omega)
      have hR4 := hR3.later (Kit.below_alloc w2 (.cells #[.int .i64 x.k, .int .i64 x.n, .string x.s, .slice a3 x.l.length c3] 30))
      have HA := Lib.hid hR4.boxA.cell
      have hz1 := hM.size
      rw [World.size_alloc] at hz1
      have hz0 := HB1.out.size
      rw [World.size_alloc] at hz0
      have hB2 : Below w.heap.size w w2 := ((HB0.out.trans (HB1.out.mono (by simp))).alloc (by omega) (.cells #[rf3 (w.heap.size + 1 + 3), rf4 (w.heap.size + 1 + 3) (w.heap.size + 1 + 1), rf5 (w.heap.size + 1 + 1)] 69)).trans (hM.below (fun j hj => by omega) (by simp; omega))
      have hX2 := ((((HX.out.moved (Kit.Moved.of_below HB1.out) (by simp)).alloc (.cells #[rf3 (w.heap.size + 1 + 3), rf4 (w.heap.size + 1 + 3) (w.heap.size + 1 + 1), rf5 (w.heap.size + 1 + 1)] 69)).moved hM (by omega)))
      obtain ⟨⟨y0, y1, y2, y3⟩, yf⟩ := hX2
      have yf0 := yf 0
      have yf1 := yf 1
      have yf2 := yf 2
      have yf3 := yf 3
      have HL := Lib.hid (And.intro hL (And.intro hB2 (And.intro z3 hF)))
      have hlt : w1.heap.size < w2.heap.size := by omega
      have hlt2 : w.heap.size < w2.heap.size := by omega
      clear hL hR3 hR4 hM hz1 z3 hB2 hF yf
      obtain ⟨W4, hW4⟩ : ∃ W4, W4 = w2.alloc (.cells #[.int .i64 x.k, .int .i64 x.n, .string x.s, .slice a3 x.l.length c3] 30) := ⟨_, rfl⟩
      have hB4 : Below w2.heap.size w2 W4 := by rw [hW4]; exact Kit.below_alloc _ _
      obtain ⟨x0, x1, x2, x3⟩ : Kit.Box4 W4 w2.heap.size (.int .i64 x.k) (.int .i64 x.n) (.string x.s) (.slice a3 x.l.length c3) := by rw [hW4]; exact Kit.box4_new _ _ _ _ _ _
      rw [← hW4] at HA
      have HW4 := Lib.hid (And.intro hW4 hB4)
      go_wp2
      change Code.wp _ _ _ _ (w2.alloc (.cells #[.int .i64 x.k, .int .i64 x.n, .string x.s, .slice a3 x.l.length c3] 30))
      rw [← hW4]
      have r4 := (hB4.cell (p := ⟨w1.heap.size, 2, none⟩) hlt).trans r2
      have u0 := (hB4.cell (p := ⟨w.heap.size, 0, none⟩) hlt2).trans y0
      have u1 := (hB4.cell (p := ⟨w.heap.size, 1, none⟩) hlt2).trans y1
      have u2 := (hB4.cell (p := ⟨w.heap.size, 2, none⟩) hlt2).trans y2
      have u3 := (hB4.cell (p := ⟨w.heap.size, 3, none⟩) hlt2).trans y3
      have uf0 := (hB4.frozen (p := ⟨w.heap.size, 0, none⟩) hlt2).trans yf0
      have uf1 := (hB4.frozen (p := ⟨w.heap.size, 1, none⟩) hlt2).trans yf1
      have uf2 := (hB4.frozen (p := ⟨w.heap.size, 2, none⟩) hlt2).trans yf2
      have uf3 := (hB4.frozen (p := ⟨w.heap.size, 3, none⟩) hlt2).trans yf3
      clear hW4 hB4 y0 y1 y2 y3 yf0 yf1 yf2 yf3 r2
      refine wp_region_still_tail 4 (by kernel_rfl) (by kernel_rfl) ?_
      simp only [List.take_succ_cons, List.take_zero, List.drop_succ_cons, List.drop_zero]
      repeat (first | still_step | still_call ((place_any _ _ _ (Kit.cell_drew HA.out)).mono fun _ _ h => ⟨h.1, h.2.symm⟩))
      refine wpStill_nil ?_
      go_wp2
      refine bodyPost_ret (v := .tuple #[aggV x.k x.n x.s (.slice a3 x.l.length c3), .int .i64 (t : Int), .int .i64 0]) (by simp [results, Tryz.results27, go_sem, u0, u1, u2, u3]) rfl ⟨⟨_, rfl, ?_, ?_⟩, ?_⟩
      · refine RepL.drew ?_
        refine HL.out.1.keep1 HFL.out (fun j hj => ?_) (by show _ ≤ (((((W4.setCell _ _).setCell _ _).setCell _ _).setCell _ _).heap.size); have := HW4.out.2.size; simp; omega)
        have h1 := HL.out.1.lt j hj
        have h2 := HL.out.2.2.2 j hj
        rw [World.size_alloc] at h2
        have h3 := HW4.out.2.size
        exact ((end4b w.heap.size W4 _ _ _ _).block j (by omega) (by omega)).trans (HW4.out.2.block j h1)
      · intro j hj
        have h2 := HL.out.2.2.2 j hj
        rw [World.size_alloc] at h2
        omega
      · exact ((HL.out.2.1.trans (HW4.out.2.mono (by omega))).trans ((end4 (Nat.le_refl _) W4 _ _ _ _).below (fun _ h => h) (by have := HW4.out.2.size; omega))).drew
  · have hd : (decide (0 ≤ a) && decide (a ≤ (s.size : Int))) = false := by
      rw [Bool.and_eq_false_iff, decide_eq_false_iff_not, decide_eq_false_iff_not]; omega
    rw [hd] at HP
    have hR : readR s a = .inl 2 := by unfold readR; rw [if_neg hin]
    rw [hR]
    clear hE hin hd hR
    go_enter Tryz.func27, Tryz.ntmps27
    go_wp2_with fail
    refine (HP.out _).mono ?_; rintro e w' ⟨rfl, rfl⟩
    go_wp2
    refine bodyPost_ret (v := .tuple #[flatV 0 0 (bs []), .int .i64 a, .int .i64 2]) (by simp [results, Tryz.results27, go_sem]) rfl ⟨rfl, Kit.below_alloc _ _⟩
end Go.Proofs.YtbmhlpojgiminaaGreatDoor.Val
