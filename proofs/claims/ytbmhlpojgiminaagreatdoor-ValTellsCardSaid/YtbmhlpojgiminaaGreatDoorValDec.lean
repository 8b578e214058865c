/- Layer 3: Decode. -/
import Derived.Test.YtbmhlpojgiminaaGreatDoorValRd4
namespace Go.Proofs.YtbmhlpojgiminaaGreatDoor.Val
open Go.RowKit
open Kit (ret_int ret_bool Moved)

/-- A value that is read, under an error. -/
def decV (s : ByteArray) (st : Int × Int) : Vl × Int × Int :=
  if (rdI s (upTo 5) st).1 = 5 then
    (.mk 5 0 (bs []) (decL s (rdI s rightC (rdI s (upTo 5) st).2).1.toNat (rdI s rightC (rdI s (upTo 5) st).2).2).1, (decL s (rdI s rightC (rdI s (upTo 5) st).2).1.toNat (rdI s rightC (rdI s (upTo 5) st).2).2).2)
  else decF s 5 st

theorem value_any (ae : Addr) (w0 : World) (be s0 ba : Nat) (s : ByteArray) (st : Int × Int) (w : World) (h : RS ae w0 be s0 ba s st w) :
    Calls Tryz.prog 57 #[rdV be s0 ba, .int .i64 5] w fun e w' => (∃ lv, e = .returned (aggV (decV s st).1.k (decV s st).1.n (decV s st).1.s lv) ∧ RepL w'.heap.size w' (decV s st).1.l lv ∧ Fresh w.heap.size lv) ∧ RS ae w0 be s0 ba s (decV s st).2 w' ∧ Moved (Own be ba) w w' := by
  unfold decV
  by_cases hk : (rdI s (upTo 5) st).1 = 5
  · rw [if_pos hk]
    have hc := rdI_count (s := s) (st := (rdI s (upTo 5) st).2)
    exact value_list ae w0 be s0 ba s st w h (rdI s (upTo 5) st).2 (rdI s rightC (rdI s (upTo 5) st).2).2 (rdI s rightC (rdI s (upTo 5) st).2).1.toNat (Prod.ext hk rfl) (Prod.ext (Int.toNat_of_nonneg hc.1).symm rfl)
  · rw [if_neg hk]
    refine (value_flat ae w0 be s0 ba s st w h 5 hk).mono ?_
    rintro e w' ⟨rfl, hR, hM⟩
    exact ⟨⟨_, rfl, .inl ⟨decF_flat s 5 st, rfl⟩, fun j hj => by cases hj⟩, hR, hM⟩

theorem isPlace_any (s : ByteArray) (a : Int) (w : World) : Calls Tryz.prog 53 #[.string s, .int .i64 a] w fun e w' => e = .returned (.bool (decide (0 ≤ a) && decide (a ≤ (s.size : Int)))) ∧ w = w' := by
  by_cases h : 0 ≤ a
  · rw [decide_eq_true h, Bool.true_and]
    go_enter Tryz.func53, Tryz.ntmps53
    go_wp2
    go_ret
    exact ⟨rfl, rfl⟩
  · rw [decide_eq_false h, Bool.false_and]
    go_enter Tryz.func53, Tryz.ntmps53
    go_wp2
    go_ret
    exact ⟨rfl, rfl⟩

theorem decV_flat (s : ByteArray) (st : Int × Int) : ∀ y ∈ (decV s st).1.l, y.isFlat := by
  unfold decV
  split
  · exact decL_flat s _ _
  · intro y hy
    rw [show (decF s 5 st).1.l = [] from decF_flat s 5 st] at hy
    cases hy

/-- What Decode answers: a value and the place behind it, or an error. -/
def decR (s : ByteArray) (a : Int) : Int ⊕ (Vl × Int) :=
  if 0 ≤ a ∧ a ≤ s.size then (if (decV s (a, 0)).2.2 ≠ 0 then .inl (decV s (a, 0)).2.2 else .inr ((decV s (a, 0)).1, (decV s (a, 0)).2.1)) else .inl 2
def DecPost (n : Nat) (r : Int ⊕ (Vl × Int)) (e : Ending) (w' : World) : Prop :=
  match r with
  | .inl er => e = .returned (.tuple #[flatV 0 0 (bs []), .int .i64 0, .int .i64 er])
  | .inr (x, t) => ∃ lv, e = .returned (.tuple #[aggV x.k x.n x.s lv, .int .i64 t, .int .i64 0]) ∧ RepL w'.heap.size w' x.l lv ∧ Fresh n lv

set_option maxRecDepth 100000 in
set_option maxHeartbeats 1000000 in
theorem Decode_any (ae : Addr) (s : ByteArray) (hs : s.size ≤ 140737488351232) (a : Int) (w : World) (hE : Env ae w) :
    Calls Tryz.prog 28 #[.string s, .int .i64 a] w fun e w' => DecPost w.heap.size (decR s a) e w' ∧ Below w.heap.size w w' := by
  have HP := Lib.hid (isPlace_any s a)
  by_cases hin : 0 ≤ a ∧ a ≤ s.size
  · obtain ⟨h0, h1⟩ := hin
    have hd : (decide (0 ≤ a) && decide (a ≤ (s.size : Int))) = true := by rw [decide_eq_true h0, decide_eq_true h1]; rfl
    rw [hd] at HP
    have hB0 := Kit.below_alloc w (.cells #[.int .i64 0, .int .i64 0, .string ⟨#[]⟩, .slice none 0 0] 30)
    have HN := Lib.hid (newReader_any ae s hs a h0 h1 _ (hE.below hB0))
    have hX := boxF_new w (.int .i64 0) (.int .i64 0) (.string ⟨#[]⟩) (.slice none 0 0) 30
    have HX := Lib.hid hX
    have HB0 := Lib.hid hB0
    have hR : decR s a = if (decV s (a, 0)).2.2 ≠ 0 then .inl (decV s (a, 0)).2.2 else .inr ((decV s (a, 0)).1, (decV s (a, 0)).2.1) := by unfold decR; rw [if_pos ⟨h0, h1⟩]
    rw [hR]
    clear hX hE hd hR hB0
    generalize hdv : decV s (a, 0) = D
    obtain ⟨x, t, er⟩ := D
    dsimp only
    have HD := Lib.hid hdv
    clear hdv
    by_cases he : er = 0
    · subst he
      rw [if_neg (by simp)]
      go_enter Tryz.func28, Tryz.ntmps28
      go_wp2_with fail
      refine (HP.out _).mono ?_; rintro e w' ⟨rfl, rfl⟩
      go_wp2_with fail
      refine HN.out.mono ?_; rintro e w1 ⟨rfl, hRS⟩
      have hR1 := hRS.later (Kit.below_alloc w1 (.cells #[rf0 (w.heap.size + 1 + 3) (w.heap.size + 1) (w.heap.size + 1 + 1), rf1 (w.heap.size + 1 + 3) (w.heap.size + 1) (w.heap.size + 1 + 1), rf2 (w.heap.size + 1 + 3) (w.heap.size + 1 + 1)] 77))
      rw [World.size_alloc] at hRS hR1
      have hlE := hRS.boxE.lt
      have hlA := hRS.boxA.lt
      have HB1 := Lib.hid hRS.below
      have HV := Lib.hid (value_any _ _ _ _ _ _ _ _ hR1)
      rw [HD.out] at HV
      have hr2 : (w1.alloc (.cells #[rf0 (w.heap.size + 1 + 3) (w.heap.size + 1) (w.heap.size + 1 + 1), rf1 (w.heap.size + 1 + 3) (w.heap.size + 1) (w.heap.size + 1 + 1), rf2 (w.heap.size + 1 + 3) (w.heap.size + 1 + 1)] 77)).cell? ⟨w1.heap.size, 2, none⟩ = some (rf2 (w.heap.size + 1 + 3) (w.heap.size + 1 + 1)) := Kit.cell_new _ _ _ 2 rfl
      have HR2 := Lib.hid hr2
      clear hRS hR1 hr2
      go_wp2_with fail
      refine HV.out.mono ?_
      rintro e w2 ⟨⟨lv, rfl, hL, hF⟩, hR3, hM⟩
      obtain ⟨a3, c3, rfl, z3⟩ := hL.len
      have nO : ¬ Own (w.heap.size + 1 + 3) (w.heap.size + 1 + 1) w1.heap.size := by unfold Own; omega
      have r2 := cell_moved HR2.out hM nO
      have HE := Lib.hid (end_any _ _ _ _ _ _ _ _ (hR3.later (Kit.below_alloc w2 (.cells #[.int .i64 x.k, .int .i64 x.n, .string x.s, .slice a3 x.l.length c3] 30))))
      have hz1 := hM.size
      rw [World.size_alloc] at hz1
      have hz0 := HB1.out.size
      rw [World.size_alloc] at hz0
      have hB2 : Below w.heap.size w w2 := ((HB0.out.trans (HB1.out.mono (by simp))).alloc (by omega) (.cells #[rf0 (w.heap.size + 1 + 3) (w.heap.size + 1) (w.heap.size + 1 + 1), rf1 (w.heap.size + 1 + 3) (w.heap.size + 1) (w.heap.size + 1 + 1), rf2 (w.heap.size + 1 + 3) (w.heap.size + 1 + 1)] 77)).trans (hM.below (fun j hj => by unfold Own at hj; omega) (by simp; omega))
      have nV : ¬ Own (w.heap.size + 1 + 3) (w.heap.size + 1 + 1) w.heap.size := by unfold Own; omega
      have hX2 := ((((HX.out.moved (Kit.Moved.of_below HB1.out) (by simp)).alloc (.cells #[rf0 (w.heap.size + 1 + 3) (w.heap.size + 1) (w.heap.size + 1 + 1), rf1 (w.heap.size + 1 + 3) (w.heap.size + 1) (w.heap.size + 1 + 1), rf2 (w.heap.size + 1 + 3) (w.heap.size + 1 + 1)] 77)).moved hM nV).alloc (.cells #[.int .i64 x.k, .int .i64 x.n, .string x.s, .slice a3 x.l.length c3] 30))
      have HX2 := Lib.hid (And.intro hX2 (boxF_new w2 (.int .i64 x.k) (.int .i64 x.n) (.string x.s) (.slice a3 x.l.length c3) 30))
      have HL := Lib.hid (And.intro hL (And.intro hB2 (And.intro z3 hF)))
      have hlt : w1.heap.size < w2.heap.size := by omega
      clear hL hR3 hM hz1 z3 hB2 hX2 hF nV
      go_wp2_with fail
      refine HE.out.mono ?_
      rintro e w3 ⟨rfl, hB3⟩
      obtain ⟨⟨y0, y1, y2, y3⟩, yf⟩ := HX2.out.1.moved (Kit.Moved.of_below hB3) (by simp; omega)
      obtain ⟨x0, x1, x2, x3⟩ := HX2.out.2.c.below hB3 (by simp)
      have yf0 := yf 0
      have yf1 := yf 1
      have yf2 := yf 2
      have yf3 := yf 3
      clear yf
      have hz3 := hB3.size
      rw [World.size_alloc] at hz3
      have hne : w.heap.size ≠ w2.heap.size := by omega
      have hB4 : Below w.heap.size w w3 := (HL.out.2.1.alloc (by omega) _).trans (hB3.mono (by simp; omega))
      have HB4 := Lib.hid (And.intro hB4 hB3)
      clear hB3 hB4
      go_wp2
      refine bodyPost_ret (v := .tuple #[aggV x.k x.n x.s (.slice a3 x.l.length c3), .int .i64 t, .int .i64 0]) (by simp [results, Tryz.results28, go_sem, y0, y1, y2, y3]) rfl ⟨⟨_, rfl, ?_, ?_⟩, ?_⟩
      · refine HL.out.1.keep1 (by have := decV_flat s (a, 0); rw [HD.out] at this; exact this) (fun j hj => ?_) (by simp; omega)
        have h1 := HL.out.1.lt j hj
        have h2 := HL.out.2.2.2 j hj
        rw [World.size_alloc] at h2
        refine ((end4b w.heap.size w3 _ _ _ _).block j (by omega) (by omega)).trans ((HB4.out.2.block j (by simp; omega)).trans ?_)
        exact (Kit.below_alloc w2 _).block j h1
      · intro j hj
        have h2 := HL.out.2.2.2 j hj
        rw [World.size_alloc] at h2
        omega
      · exact HB4.out.1.trans ((end4 (Nat.le_refl _) w3 _ _ _ _).below (fun _ h => h) (by omega))
    · rw [if_pos he]
      have he2 : (er != 0) = true := by simpa using he
      clear he
      go_enter Tryz.func28, Tryz.ntmps28
      go_wp2_with fail
      refine (HP.out _).mono ?_; rintro e w' ⟨rfl, rfl⟩
      go_wp2_with fail
      refine HN.out.mono ?_; rintro e w1 ⟨rfl, hRS⟩
      have hR1 := hRS.later (Kit.below_alloc w1 (.cells #[rf0 (w.heap.size + 1 + 3) (w.heap.size + 1) (w.heap.size + 1 + 1), rf1 (w.heap.size + 1 + 3) (w.heap.size + 1) (w.heap.size + 1 + 1), rf2 (w.heap.size + 1 + 3) (w.heap.size + 1 + 1)] 77))
      rw [World.size_alloc] at hRS hR1
      have hlE := hRS.boxE.lt
      have hlA := hRS.boxA.lt
      have HB1 := Lib.hid hRS.below
      have HV := Lib.hid (value_any _ _ _ _ _ _ _ _ hR1)
      rw [HD.out] at HV
      have hr2 : (w1.alloc (.cells #[rf0 (w.heap.size + 1 + 3) (w.heap.size + 1) (w.heap.size + 1 + 1), rf1 (w.heap.size + 1 + 3) (w.heap.size + 1) (w.heap.size + 1 + 1), rf2 (w.heap.size + 1 + 3) (w.heap.size + 1 + 1)] 77)).cell? ⟨w1.heap.size, 2, none⟩ = some (rf2 (w.heap.size + 1 + 3) (w.heap.size + 1 + 1)) := Kit.cell_new _ _ _ 2 rfl
      have HR2 := Lib.hid hr2
      clear hRS hR1 hr2
      go_wp2_with fail
      refine HV.out.mono ?_
      rintro e w2 ⟨⟨lv, rfl, hL, hF⟩, hR3, hM⟩
      obtain ⟨a3, c3, rfl, z3⟩ := hL.len
      have nO : ¬ Own (w.heap.size + 1 + 3) (w.heap.size + 1 + 1) w1.heap.size := by unfold Own; omega
      have r2 := cell_moved HR2.out hM nO
      have HE := Lib.hid (end_any _ _ _ _ _ _ _ _ (hR3.later (Kit.below_alloc w2 (.cells #[.int .i64 x.k, .int .i64 x.n, .string x.s, .slice a3 x.l.length c3] 30))))
      have hz1 := hM.size
      rw [World.size_alloc] at hz1
      have hz0 := HB1.out.size
      rw [World.size_alloc] at hz0
      have hB2 : Below w.heap.size w w2 := ((HB0.out.trans (HB1.out.mono (by simp))).alloc (by omega) (.cells #[rf0 (w.heap.size + 1 + 3) (w.heap.size + 1) (w.heap.size + 1 + 1), rf1 (w.heap.size + 1 + 3) (w.heap.size + 1) (w.heap.size + 1 + 1), rf2 (w.heap.size + 1 + 3) (w.heap.size + 1 + 1)] 77)).trans (hM.below (fun j hj => by unfold Own at hj; omega) (by simp; omega))
      have nV : ¬ Own (w.heap.size + 1 + 3) (w.heap.size + 1 + 1) w.heap.size := by unfold Own; omega
      have hX2 := ((((HX.out.moved (Kit.Moved.of_below HB1.out) (by simp)).alloc (.cells #[rf0 (w.heap.size + 1 + 3) (w.heap.size + 1) (w.heap.size + 1 + 1), rf1 (w.heap.size + 1 + 3) (w.heap.size + 1) (w.heap.size + 1 + 1), rf2 (w.heap.size + 1 + 3) (w.heap.size + 1 + 1)] 77)).moved hM nV).alloc (.cells #[.int .i64 x.k, .int .i64 x.n, .string x.s, .slice a3 x.l.length c3] 30))
      have HX2 := Lib.hid (And.intro hX2 (boxF_new w2 (.int .i64 x.k) (.int .i64 x.n) (.string x.s) (.slice a3 x.l.length c3) 30))
      have HL := Lib.hid (And.intro hL (And.intro hB2 (And.intro z3 hF)))
      have hlt : w1.heap.size < w2.heap.size := by omega
      clear hL hR3 hM hz1 z3 hB2 hX2 hF nV
      go_wp2_with fail
      refine HE.out.mono ?_
      rintro e w3 ⟨rfl, hB3⟩
      obtain ⟨⟨y0, y1, y2, y3⟩, yf⟩ := HX2.out.1.moved (Kit.Moved.of_below hB3) (by simp; omega)
      obtain ⟨x0, x1, x2, x3⟩ := HX2.out.2.c.below hB3 (by simp)
      have yf0 := yf 0
      have yf1 := yf 1
      have yf2 := yf 2
      have yf3 := yf 3
      clear yf
      have hz3 := hB3.size
      rw [World.size_alloc] at hz3
      have hne : w.heap.size ≠ w2.heap.size := by omega
      have hB4 : Below w.heap.size w w3 := (HL.out.2.1.alloc (by omega) _).trans (hB3.mono (by simp; omega))
      have HB4 := Lib.hid (And.intro hB4 hB3)
      clear hB3 hB4
      go_wp2
      refine bodyPost_ret (v := .tuple #[flatV 0 0 (bs []), .int .i64 0, .int .i64 er]) (by simp [results, Tryz.results28, go_sem, y0, y1, y2, y3]) rfl ⟨rfl, ?_⟩
      exact HB4.out.1.trans ((end4 (Nat.le_refl _) w3 _ _ _ _).below (fun _ h => h) (by omega))
  · have hd : (decide (0 ≤ a) && decide (a ≤ (s.size : Int))) = false := by
      rw [Bool.and_eq_false_iff, decide_eq_false_iff_not, decide_eq_false_iff_not]; omega
    rw [hd] at HP
    have hR : decR s a = .inl 2 := by unfold decR; rw [if_neg hin]
    rw [hR]
    clear hE hin hd hR
    go_enter Tryz.func28, Tryz.ntmps28
    go_wp2_with fail
    refine (HP.out _).mono ?_; rintro e w' ⟨rfl, rfl⟩
    go_wp2
    refine bodyPost_ret (v := .tuple #[flatV 0 0 (bs []), .int .i64 0, .int .i64 2]) (by simp [results, Tryz.results28, go_sem]) rfl ⟨rfl, Kit.below_alloc _ _⟩
end Go.Proofs.YtbmhlpojgiminaaGreatDoor.Val
