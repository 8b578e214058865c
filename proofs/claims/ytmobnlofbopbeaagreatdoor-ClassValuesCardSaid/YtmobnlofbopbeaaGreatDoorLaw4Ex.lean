/- Layer 4's laws: examples: true. -/
import Derived.Test.YtmobnlofbopbeaaGreatDoorClassRef
import Derived.Test.YtmobnlofbopbeaaGreatDoorMH
import Derived.Test.YtmobnlofbopbeaaGreatDoorMI
import Derived.Outline
namespace Go.Proofs.YtmobnlofbopbeaaGreatDoor.Cls
open Go.RowKit
open Kit (ret_int ret_bool Moved)
open Val (Env flat bs Vl Rep RepL cellsF)

attribute [local go_sem] Oper.semAt_some

/-- A class that lies in a box. -/
def BxC (W : World) (b : Nat) (c : Cl) (lv : Value) : Prop := (W.cell? ⟨b, 0, none⟩ = some (.string c.nm) ∧ W.cell? ⟨b, 1, none⟩ = some lv) ∧ FdL W.heap.size W c.l lv
theorem BxC.later {W W' : World} {b : Nat} {c : Cl} {lv : Value} (h : BxC W b c lv) (hB : Below W.heap.size W W') : BxC W' b c lv :=
  ⟨⟨(hB.cell (p := ⟨b, 0, none⟩) (Kit.lt_of_cell h.1.1)).trans h.1.1, (hB.cell (p := ⟨b, 1, none⟩) (Kit.lt_of_cell h.1.2)).trans h.1.2⟩, (h.2.below hB (Nat.le_refl _)).mono hB.size⟩
theorem BxC.new (W : World) (c : Cl) (lv : Value) (h : FdL W.heap.size W c.l lv) : BxC (W.alloc (.cells #[.string c.nm, lv] 56)) W.heap.size c lv :=
  ⟨⟨Kit.cell_new W #[.string c.nm, lv] 56 0 rfl, Kit.cell_new W #[.string c.nm, lv] 56 1 rfl⟩, (h.below (Kit.below_alloc W _) (Nat.le_refl _)).mono (by simp)⟩
/-- A list of fields that is laid anew. -/
theorem fdL_new (W : World) (l : List Fd) (hl : l.length ≤ 1000) : FdL (W.alloc (.cells (l.flatMap cellsFd).toArray 94)).heap.size (W.alloc (.cells (l.flatMap cellsFd).toArray 94)) l (.slice (some ⟨W.heap.size, 0, none⟩) l.length l.length) :=
  .inr ⟨W.heap.size, 0, l.length, by simp, rfl, by unfold maxLen; omega, fun j u hu => Kit.cell_new W _ _ (0 + j) (by rw [Nat.zero_add, List.getElem?_toArray]; exact hu)⟩
theorem repL_new (W : World) (l : List Vl) (hl : l.length ≤ 1000) (h0 : l ≠ []) (hf : ∀ x ∈ l, x.isFlat) : RepL (W.alloc (.cells (l.flatMap cellsF).toArray 30)).heap.size (W.alloc (.cells (l.flatMap cellsF).toArray 30)) l (.slice (some ⟨W.heap.size, 0, none⟩) l.length l.length) :=
  .inr ⟨W.heap.size, 0, l.length, by simp, h0, rfl, Nat.le_refl _, by unfold maxLen; omega, Val.repC_flat _ _ hf fun j u hu => Kit.cell_new W _ _ (0 + j) (by rw [Nat.zero_add, List.getElem?_toArray]; exact hu)⟩
theorem fdL_nil {B : Nat} {W : World} : FdL B W [] (.slice none 0 0) := .inl ⟨rfl, none, 0, rfl⟩

def exC : Cl := ⟨⟨#[110]⟩, [⟨⟨#[97]⟩, 1, 0, true⟩, ⟨⟨#[98]⟩, 3, 0, false⟩]⟩
def noC : Cl := ⟨⟨#[]⟩, []⟩
def five : Vl := flat 1 5 ⟨#[]⟩
theorem ex1 : checkC exC [five, flat 3 3 ⟨#[]⟩] = (0, 0) := by kernel_rfl
theorem ex2 : checkC exC [five, flat 0 0 ⟨#[]⟩] = (0, 0) := by kernel_rfl
theorem ex3 : checkC exC [five] = (1, 42) := by kernel_rfl
theorem ex4 : checkC exC [five, five] = (1, 42) := by kernel_rfl
theorem ex5 : clsR exC = true ∧ encC exC = [2, 110, 4, 2, 97, 2, 0, 2, 2, 98, 6, 0, 0] := ⟨by kernel_rfl, by kernel_rfl⟩
theorem ex6 : decC ⟨#[120, 2, 110, 4, 2, 97, 2, 0, 2, 2, 98, 6, 0, 0, 121]⟩ 1 = some (exC, 14) := by kernel_rfl
theorem ex7 : decC ⟨#[2, 110, 4, 2, 97, 2, 0, 2, 2, 98, 6, 0, 0]⟩ 1 = none := by kernel_rfl
theorem ex8 : fieldV exC.l ⟨#[98]⟩ = .tuple #[.int .i64 1, .bool true] ∧ fieldV exC.l ⟨#[99]⟩ = .tuple #[.int .i64 0, .bool false] := ⟨by kernel_rfl, by kernel_rfl⟩
theorem ex9 : sameC exC exC = true ∧ sameC exC noC = false ∧ clsR noC = false := ⟨by kernel_rfl, by kernel_rfl, by kernel_rfl⟩
theorem ex10 : Val.rightTy 5 4 = true ∧ Val.rightTy 5 0 = false := ⟨by kernel_rfl, by kernel_rfl⟩
theorem fits5 : ∀ k n : Int, (flat k n ⟨#[]⟩).fits := fun k n => ⟨by show (ByteArray.mk #[]).size ≤ _; decide, fun y hy => by cases hy⟩
theorem up {w W : World} (h : Below w.heap.size w W) (o : Obj) : Below w.heap.size w (W.alloc o) := h.trans ((Kit.below_alloc W o).mono h.size)
theorem next {w U W' : World} (h : Below w.heap.size w U) (hB : Below U.heap.size U W') : Below w.heap.size w W' := h.trans (hB.mono h.size)
/-- What lies in memory while the examples run. -/
structure ExJ (w : World) (W : World) : Prop where
  c : BxC W (w.heap.size + 1) exC (.slice (some ⟨w.heap.size, 0, none⟩) 2 2)
  v : Kit.Box4 W (w.heap.size + 1 + 1) (.int .i64 1) (.int .i64 5) (.string ⟨#[]⟩) (.slice none 0 0)
  below : Below w.heap.size w W
theorem ExJ.later {w W W' : World} (h : ExJ w W) (hB : Below W.heap.size W W') : ExJ w W' := ⟨h.c.later hB, h.v.below hB h.v.lt, next h.below hB⟩
theorem ExJ.begins (w : World) : ExJ w (((w.alloc (.cells #[.string ⟨#[97]⟩, .int .i64 1, .int .i64 0, .bool true, .string ⟨#[98]⟩, .int .i64 3, .int .i64 0, .bool false] 94)).alloc (.cells #[.string ⟨#[110]⟩, .slice (some ⟨w.heap.size, 0, none⟩) 2 2] 56)).alloc (.cells #[.int .i64 1, .int .i64 5, .string ⟨#[]⟩, .slice none 0 0] 30)) := by
  have h1 := fdL_new w exC.l (by decide)
  have h2 := BxC.new _ exC _ h1
  have h3 := h2.later (Kit.below_alloc _ (.cells #[.int .i64 1, .int .i64 5, .string ⟨#[]⟩, .slice none 0 0] 30))
  have h4 := Kit.box4_new ((w.alloc (.cells #[.string ⟨#[97]⟩, .int .i64 1, .int .i64 0, .bool true, .string ⟨#[98]⟩, .int .i64 3, .int .i64 0, .bool false] 94)).alloc (.cells #[.string ⟨#[110]⟩, .slice (some ⟨w.heap.size, 0, none⟩) 2 2] 56)) (.int .i64 1) (.int .i64 5) (.string ⟨#[]⟩) (.slice none 0 0) 30
  simp only [World.size_alloc] at h3 h4
  exact ⟨h3, h4, up (Kit.below_alloc2 w _ _) _⟩
theorem vals_new (W : World) (l : List Vl) (h1 : l.length ≤ 1000) (h0 : l ≠ []) (hf : ∀ x ∈ l, x.isFlat) (cs : Array Value) (h : cs = (l.flatMap cellsF).toArray) : RepL (W.alloc (.cells cs 30)).heap.size (W.alloc (.cells cs 30)) l (.slice (some ⟨W.heap.size, 0, none⟩) l.length l.length) := by
  subst h; exact repL_new W l h1 h0 hf

set_option maxRecDepth 100000 in
set_option maxHeartbeats 8000000 in
theorem examples_any (ae : Addr) (w : World) (hE : Env ae w) : Calls Tryz.prog 32 #[] w fun e w' => e = .returned (.bool true) ∧ Below w.heap.size w w' := by
  have HE := Lib.hid (fun W (h : Below w.heap.size w W) => hE.below h)
  have J0 := Lib.hid (ExJ.begins w)
  have HS := Lib.hid (show (⟨#[120]⟩ : ByteArray) ++ bs [2, 110, 4, 2, 97, 2, 0, 2, 2, 98, 6, 0, 0] ++ ⟨#[121]⟩ = ⟨#[120, 2, 110, 4, 2, 97, 2, 0, 2, 2, 98, 6, 0, 0, 121]⟩ from rfl)
  clear hE
  obtain ⟨p1, p2⟩ := J0.out.c.1
  obtain ⟨q1, q2, q3, q4⟩ := J0.out.v
  go_enter Tryz.func32, Tryz.ntmps32
  go_upto_region 3 with fail
  generalize ((w.alloc (.cells #[.string ⟨#[97]⟩, .int .i64 1, .int .i64 0, .bool true, .string ⟨#[98]⟩, .int .i64 3, .int .i64 0, .bool false] 94)).alloc (.cells #[.string ⟨#[110]⟩, .slice (some ⟨w.heap.size, 0, none⟩) 2 2] 56)).alloc (.cells #[.int .i64 1, .int .i64 5, .string ⟨#[]⟩, .slice none 0 0] 30) = W0 at *
  go_wp2_with fail
  have JA := Lib.hid (J0.out.later (Kit.below_alloc W0 (.cells #[.int .i64 1, .int .i64 5, .string ⟨#[]⟩, .slice none 0 0, .int .i64 3, .int .i64 3, .string ⟨#[]⟩, .slice none 0 0] 30)))
  refine (check_any ae exC [five, flat 3 3 ⟨#[]⟩] (by intro y hy; simp only [List.mem_cons, List.not_mem_nil, or_false] at hy; rcases hy with rfl | rfl <;> exact fits5 _ _) _ _ _ _ (Nat.le_refl _) (HE.out _ JA.out.below) JA.out.c.2 (vals_new W0 [five, flat 3 3 ⟨#[]⟩] (by decide) (by simp) (by intro y hy; simp only [List.mem_cons, List.not_mem_nil, or_false] at hy; rcases hy with rfl | rfl <;> rfl) _ rfl)).mono ?_
  rintro e W1 ⟨rfl, hB⟩
  rw [ex1]
  have J1 := Lib.hid (JA.out.later hB)
  clear hB JA J0 p1 p2 q1 q2 q3 q4
  obtain ⟨p1, p2⟩ := J1.out.c.1
  obtain ⟨q1, q2, q3, q4⟩ := J1.out.v
  go_wp2_with fail
  have JA := Lib.hid (J1.out.later (Kit.below_alloc W1 (.cells #[.int .i64 1, .int .i64 5, .string ⟨#[]⟩, .slice none 0 0, .int .i64 0, .int .i64 0, .string ⟨#[]⟩, .slice none 0 0] 30)))
  refine (check_any ae exC [five, flat 0 0 ⟨#[]⟩] (by intro y hy; simp only [List.mem_cons, List.not_mem_nil, or_false] at hy; rcases hy with rfl | rfl <;> exact fits5 _ _) _ _ _ _ (Nat.le_refl _) (HE.out _ JA.out.below) JA.out.c.2 (vals_new W1 [five, flat 0 0 ⟨#[]⟩] (by decide) (by simp) (by intro y hy; simp only [List.mem_cons, List.not_mem_nil, or_false] at hy; rcases hy with rfl | rfl <;> rfl) _ rfl)).mono ?_
  rintro e W2 ⟨rfl, hB⟩
  rw [ex2]
  have J2 := Lib.hid (JA.out.later hB)
  clear hB JA J1 p1 p2 q1 q2 q3 q4
  obtain ⟨p1, p2⟩ := J2.out.c.1
  obtain ⟨q1, q2, q3, q4⟩ := J2.out.v
  go_wp2_with fail
  have JA := Lib.hid (J2.out.later (Kit.below_alloc W2 (.cells #[.int .i64 1, .int .i64 5, .string ⟨#[]⟩, .slice none 0 0] 30)))
  refine (check_any ae exC [five] (by intro y hy; simp only [List.mem_cons, List.not_mem_nil, or_false] at hy; rcases hy with rfl <;> exact fits5 _ _) _ _ _ _ (Nat.le_refl _) (HE.out _ JA.out.below) JA.out.c.2 (vals_new W2 [five] (by decide) (by simp) (by intro y hy; simp only [List.mem_cons, List.not_mem_nil, or_false] at hy; rcases hy with rfl <;> rfl) _ rfl)).mono ?_
  rintro e W3 ⟨rfl, hB⟩
  rw [ex3]
  have J3 := Lib.hid (JA.out.later hB)
  clear hB JA J2 p1 p2 q1 q2 q3 q4
  obtain ⟨p1, p2⟩ := J3.out.c.1
  obtain ⟨q1, q2, q3, q4⟩ := J3.out.v
  go_wp2_with fail
  have JA := Lib.hid (J3.out.later (Kit.below_alloc W3 (.cells #[.int .i64 1, .int .i64 5, .string ⟨#[]⟩, .slice none 0 0, .int .i64 1, .int .i64 5, .string ⟨#[]⟩, .slice none 0 0] 30)))
  refine (check_any ae exC [five, five] (by intro y hy; simp only [List.mem_cons, List.not_mem_nil, or_false] at hy; rcases hy with rfl | rfl <;> exact fits5 _ _) _ _ _ _ (Nat.le_refl _) (HE.out _ JA.out.below) JA.out.c.2 (vals_new W3 [five, five] (by decide) (by simp) (by intro y hy; simp only [List.mem_cons, List.not_mem_nil, or_false] at hy; rcases hy with rfl | rfl <;> rfl) _ rfl)).mono ?_
  rintro e W4 ⟨rfl, hB⟩
  rw [ex4]
  have J4 := Lib.hid (JA.out.later hB)
  clear hB JA J3 p1 p2 q1 q2 q3 q4
  obtain ⟨p1, p2⟩ := J4.out.c.1
  obtain ⟨q1, q2, q3, q4⟩ := J4.out.v
  go_wp2_with fail
  refine (Encode_any ae exC _ _ _ (Nat.le_refl _) (HE.out _ J4.out.below) J4.out.c.2).mono ?_
  rintro e W5 ⟨rfl, hB⟩
  rw [if_pos ex5.1, ex5.2]
  have J5 := Lib.hid (J4.out.later hB)
  clear hB J4 p1 p2 q1 q2 q3 q4
  obtain ⟨p1, p2⟩ := J5.out.c.1
  obtain ⟨q1, q2, q3, q4⟩ := J5.out.v
  go_wp2_with fail
  rw [HS.out]
  refine (Decode_any ae _ (by decide) 1 (by decide) (by decide) _ (HE.out _ J5.out.below)).mono ?_
  rintro e W6 ⟨hp, hB⟩
  rw [ex6] at hp
  obtain ⟨lv, rfl, hl⟩ := hp
  obtain ⟨da, dc, rfl, -⟩ := hl.len
  have J6 := Lib.hid ((J5.out.later hB).later (Kit.below_alloc W6 (.cells #[.string exC.nm, .slice da exC.l.length dc] 56)))
  have D6 := Lib.hid (BxC.new W6 exC _ hl)
  clear hB hl J5 p1 p2 q1 q2 q3 q4
  go_wp2_with fail
  refine (Decode_any ae _ (by decide) 1 (by decide) (by decide) _ (HE.out _ J6.out.below)).mono ?_
  rintro e W7 ⟨hp, hB⟩
  rw [show bs [2, 110, 4, 2, 97, 2, 0, 2, 2, 98, 6, 0, 0] = ⟨#[2, 110, 4, 2, 97, 2, 0, 2, 2, 98, 6, 0, 0]⟩ from rfl, ex7] at hp
  obtain rfl : e = _ := hp
  have J7 := Lib.hid ((J6.out.later hB).later (Kit.below_alloc W7 (.cells #[.string ⟨#[]⟩, .slice none 0 0] 56)))
  have D7 := Lib.hid ((D6.out.later hB).later (Kit.below_alloc W7 (.cells #[.string ⟨#[]⟩, .slice none 0 0] 56)))
  clear hB J6 D6
  obtain ⟨p1, p2⟩ := J7.out.c.1
  go_wp2_with fail
  refine (field_any exC ⟨#[98]⟩ _ _ _ (Nat.le_refl _) J7.out.c.2).mono ?_
  rintro e W8 ⟨rfl, hB⟩
  rw [ex8.1]
  have J8 := Lib.hid (J7.out.later hB)
  have D8 := Lib.hid (D7.out.later hB)
  clear hB J7 D7 p1 p2
  obtain ⟨p1, p2⟩ := J8.out.c.1
  go_wp2_with fail
  refine (field_any exC ⟨#[99]⟩ _ _ _ (Nat.le_refl _) J8.out.c.2).mono ?_
  rintro e W9 ⟨rfl, hB⟩
  rw [ex8.2]
  have J9 := Lib.hid (J8.out.later hB)
  have D9 := Lib.hid (D8.out.later hB)
  clear hB J8 D8 p1 p2
  obtain ⟨p1, p2⟩ := J9.out.c.1
  obtain ⟨r1, r2⟩ := D9.out.1
  go_wp2_with fail
  refine (refSame_cl exC exC _ _ _ _ (Nat.le_refl _) J9.out.c.2 D9.out.2).mono ?_
  rintro e W10 ⟨rfl, hB⟩
  rw [ex9.1]
  have J10 := Lib.hid (J9.out.later hB)
  clear hB J9 D9 p1 p2 r1 r2
  obtain ⟨p1, p2⟩ := J10.out.c.1
  go_wp2_with fail
  refine (right_cl ae exC _ _ _ (Nat.le_refl _) (HE.out _ J10.out.below) J10.out.c.2).mono ?_
  rintro e W11 ⟨rfl, hB⟩
  rw [ex5.1]
  have J11 := Lib.hid (J10.out.later hB)
  clear hB J10 p1 p2
  go_wp2_with fail
  refine (right_cl ae noC W11.heap.size _ _ (Nat.le_refl _) (HE.out _ J11.out.below) fdL_nil).mono ?_
  rintro e W12 ⟨rfl, hB⟩
  rw [ex9.2.2]
  have J12 := Lib.hid (J11.out.later hB)
  clear hB J11
  go_wp2_with fail
  refine (RightType_any ae 5 4 _ (HE.out _ J12.out.below)).mono ?_
  rintro e W13 ⟨rfl, hB⟩
  rw [ex10.1]
  have J13 := Lib.hid (J12.out.later hB)
  clear hB J12
  go_wp2_with fail
  refine (RightType_any ae 5 0 _ (HE.out _ J13.out.below)).mono ?_
  rintro e W14 ⟨rfl, hB⟩
  rw [ex10.2]
  have J14 := Lib.hid (J13.out.later hB)
  clear hB J13
  obtain ⟨p1, p2⟩ := J14.out.c.1
  go_wp2_with fail
  refine (same_cl exC exC _ _ _ _ (Nat.le_refl _) J14.out.c.2 J14.out.c.2).mono ?_
  rintro e W15 ⟨rfl, hB⟩
  rw [ex9.1]
  have J15 := Lib.hid (J14.out.later hB)
  clear hB J14 p1 p2
  obtain ⟨p1, p2⟩ := J15.out.c.1
  go_wp2_with fail
  refine (same_cl exC noC _ _ _ _ (Nat.le_refl _) J15.out.c.2 fdL_nil).mono ?_
  rintro e W16 ⟨rfl, hB⟩
  rw [ex9.2.1]
  have J16 := Lib.hid (J15.out.later hB)
  clear hB J15 p1 p2
  go_wp2
  go_ret
  exact ⟨ret_bool rfl, J16.out.below⟩
end Go.Proofs.YtmobnlofbopbeaaGreatDoor.Cls
