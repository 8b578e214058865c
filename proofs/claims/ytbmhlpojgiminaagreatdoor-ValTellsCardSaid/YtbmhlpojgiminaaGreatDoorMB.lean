/- Layer 3's laws: what awake's calls answer. -/
import Derived.Test.YtbmhlpojgiminaaGreatDoorLaw3Of
import Derived.Test.YtbmhlpojgiminaaGreatDoorValRead
import Derived.Test.YtbmhlpojgiminaaGreatDoorMC
import Derived.Test.YtbmhlpojgiminaaGreatDoorValEnc
import Derived.Outline
import Derived.WalkKit
import Derived.Test.YtbmhlpojgiminaaGreatDoorMD
namespace Go.Proofs.YtbmhlpojgiminaaGreatDoor.Val
open Go.RowKit
open Kit (ret_int ret_bool Moved)

def fourL : List Vl := [flat 1 1 (bs []), flat 2 0 (bs [97, 34, 98]), flat 3 7 (bs []), flat 0 0 (bs [])]
def fourV : Vl := .mk 5 0 (bs []) fourL
theorem aw1 : readR ⟨#[91, 49, 32, 34, 97, 92, 34, 98, 34, 32, 64, 55, 32, 45, 93]⟩ 0 = .inr (fourV, 15) := by kernel_rfl
theorem aw2 : readR ⟨#[120, 45, 53]⟩ 1 = .inr (flat 1 (-5) (bs []), 3) := by kernel_rfl
theorem aw3 : readR ⟨#[45, 32, 53]⟩ 0 = .inr (flat 0 0 (bs []), 1) := by kernel_rfl
theorem aw4 : readR ⟨#[48, 48, 55]⟩ 0 = .inr (flat 1 0 (bs []), 1) := by kernel_rfl
theorem aw5 : rightV (flat 1 1 (bs [])) = true ∧ encV (flat 1 1 (bs [])) = [2, 2] := ⟨by kernel_rfl, by kernel_rfl⟩
theorem aw6 : decR ⟨#[]⟩ 0 = .inl 10 := by kernel_rfl
theorem aw7 : decR ⟨#[12]⟩ 0 = .inl 30 := by kernel_rfl
theorem aw8 : readR ⟨#[120]⟩ 0 = .inl 30 := by kernel_rfl
theorem aw9 : decR ⟨#[]⟩ 1 = .inl 2 := by kernel_rfl
theorem aw10 : rightV fourV = true := by kernel_rfl
theorem aw11 : rightV (flat 0 1 (bs [])) = false := by kernel_rfl
theorem aw12 : sameV fourV fourV = true := by kernel_rfl
theorem aw13 : sameV fourV (flat 1 (-5) (bs [])) = false := by kernel_rfl
theorem aw14 : sameV (flat 1 (-5) (bs [])) (flat 1 (-5) (bs [])) = true := by kernel_rfl
end Go.Proofs.YtbmhlpojgiminaaGreatDoor.Val
/- Layer 3's laws: awake: true. -/
namespace Go.Proofs.YtbmhlpojgiminaaGreatDoor.Val
open Go.RowKit
open Kit (ret_int ret_bool Moved)

attribute [local go_sem] Oper.semAt_some

/-- A value that lies in a box of four. -/
def Bx (W : World) (b : Nat) (x : Vl) (lv : Value) : Prop := Kit.Box4 W b (.int .i64 x.k) (.int .i64 x.n) (.string x.s) lv ∧ RepL W.heap.size W x.l lv
theorem Bx.later {W W' : World} {b : Nat} {x : Vl} {lv : Value} (h : Bx W b x lv) (hB : Below W.heap.size W W') : Bx W' b x lv :=
  ⟨h.1.below hB h.1.lt, (h.2.below hB (Nat.le_refl _)).mono hB.size⟩
theorem Bx.rep {W : World} {b : Nat} {x : Vl} {lv : Value} (h : Bx W b x lv) : Rep W.heap.size W x (aggV x.k x.n x.s lv) := by
  cases x; exact rep_mk.2 ⟨_, rfl, h.2⟩
theorem Bx.new (W : World) (x : Vl) (lv : Value) (h : RepL W.heap.size W x.l lv) : Bx (W.alloc (.cells #[.int .i64 x.k, .int .i64 x.n, .string x.s, lv] 30)) W.heap.size x lv :=
  ⟨Kit.box4_new _ _ _ _ _ _, (h.below (Kit.below_alloc W _) (Nat.le_refl _)).mono (by simp)⟩

theorem up {w W : World} (h : Below w.heap.size w W) (o : Obj) : Below w.heap.size w (W.alloc o) := h.trans ((Kit.below_alloc W o).mono h.size)
theorem next {w U W' : World} (h : Below w.heap.size w U) (hB : Below U.heap.size U W') : Below w.heap.size w W' := h.trans (hB.mono h.size)
theorem repL_nil {B : Nat} {w : World} {lv : Value} (h : RepL B w [] lv) : lv = .slice none 0 0 := by
  rcases h with ⟨_, h⟩ | ⟨_, _, _, _, h, _⟩
  · exact h
  · exact absurd rfl h
theorem dec_err {n : Nat} {er : Int} {e : Ending} {w' : World} (h : DecPost n (.inl er) e w') : e = .returned (.tuple #[flatV 0 0 (bs []), .int .i64 0, .int .i64 er]) := h
theorem read_err {n : Nat} {a er : Int} {e : Ending} {w' : World} (h : ReadPost n a (.inl er) e w') : e = .returned (.tuple #[flatV 0 0 (bs []), .int .i64 a, .int .i64 er]) := h
theorem read_flat {n : Nat} {a k m t : Int} {s : ByteArray} {e : Ending} {w' : World} (h : ReadPost n a (.inr (flat k m s, t)) e w') : e = .returned (.tuple #[flatV k m s, .int .i64 t, .int .i64 0]) := by
  obtain ⟨lv, rfl, hl, -⟩ := h
  rw [repL_nil hl]
  rfl
def four4 (W : World) (b : Nat) (x : Vl) (lv : Value) : Prop := Kit.Box4 W b (.int .i64 x.k) (.int .i64 x.n) (.string x.s) lv

theorem four_fits : fourV.fits := ⟨by decide, fun y hy => by
  simp only [fourV, Vl.l, fourL, List.mem_cons, List.not_mem_nil, or_false] at hy
  rcases hy with rfl | rfl | rfl | rfl <;> decide⟩
theorem four_new (W : World) : Bx ((W.alloc (.cells #[.int .i64 1, .int .i64 1, .string ⟨#[]⟩, .slice none 0 0, .int .i64 2, .int .i64 0, .string ⟨#[97, 34, 98]⟩, .slice none 0 0, .int .i64 3, .int .i64 7, .string ⟨#[]⟩, .slice none 0 0, .int .i64 0, .int .i64 0, .string ⟨#[]⟩, .slice none 0 0] 30)).alloc (.cells #[.int .i64 5, .int .i64 0, .string ⟨#[]⟩, .slice (some ⟨W.heap.size, 0, none⟩) 4 4] 30)) (W.heap.size + 1) fourV (.slice (some ⟨W.heap.size, 0, none⟩) 4 4) := by
  have h : RepL (W.alloc (.cells #[.int .i64 1, .int .i64 1, .string ⟨#[]⟩, .slice none 0 0, .int .i64 2, .int .i64 0, .string ⟨#[97, 34, 98]⟩, .slice none 0 0, .int .i64 3, .int .i64 7, .string ⟨#[]⟩, .slice none 0 0, .int .i64 0, .int .i64 0, .string ⟨#[]⟩, .slice none 0 0] 30)).heap.size (W.alloc (.cells #[.int .i64 1, .int .i64 1, .string ⟨#[]⟩, .slice none 0 0, .int .i64 2, .int .i64 0, .string ⟨#[97, 34, 98]⟩, .slice none 0 0, .int .i64 3, .int .i64 7, .string ⟨#[]⟩, .slice none 0 0, .int .i64 0, .int .i64 0, .string ⟨#[]⟩, .slice none 0 0] 30)) fourV.l (.slice (some ⟨W.heap.size, 0, none⟩) 4 4) := by
    refine .inr ⟨W.heap.size, 0, 4, by simp, by simp [fourV, fourL, Vl.l], rfl, by decide, by decide, repC_flat _ _ ?_ ?_⟩
    · intro y hy
      simp only [fourV, Vl.l, fourL, List.mem_cons, List.not_mem_nil, or_false] at hy
      rcases hy with rfl | rfl | rfl | rfl <;> rfl
    · intro j u hu
      rw [show fourV.l.flatMap cellsF = [.int .i64 1, .int .i64 1, .string ⟨#[]⟩, .slice none 0 0, .int .i64 2, .int .i64 0, .string ⟨#[97, 34, 98]⟩, .slice none 0 0, .int .i64 3, .int .i64 7, .string ⟨#[]⟩, .slice none 0 0, .int .i64 0, .int .i64 0, .string ⟨#[]⟩, .slice none 0 0] from rfl] at hu
      exact Kit.cell_new W _ _ (0 + j) (by simpa using hu)
  have := Bx.new _ fourV _ h
  rw [World.size_alloc] at this
  exact this

set_option maxRecDepth 100000 in
set_option maxHeartbeats 8000000 in
theorem awake3_any (ae : Addr) (w : World) (hE : Env ae w) : Calls Tryz.prog 4 #[] w fun e w' => e = .returned (.bool true) ∧ Below w.heap.size w w' := by
  have HE := Lib.hid (fun W (h : Below w.heap.size w W) => hE.below h)
  have B0 := Lib.hid (Below.refl w.heap.size w)
  clear hE
  go_enter Tryz.func4, Tryz.ntmps4
  go_wp2_with fail
  refine (Read_any ae _ (by decide) _ _ (HE.out _ B0.out)).mono ?_
  rintro e W1 ⟨hp, hB⟩
  rw [aw1] at hp
  obtain ⟨lv, rfl, hl, -⟩ := hp
  have B1 := Lib.hid (next B0.out hB)
  have A1 := Lib.hid (Bx.new W1 fourV lv hl)
  obtain ⟨a1, c1, rfl, -⟩ := hl.len
  clear hB hl B0
  go_wp2_with fail
  refine (Read_any ae _ (by decide) _ _ (HE.out _ (up B1.out _))).mono ?_
  rintro e W2 ⟨hp, hB⟩
  rw [aw2] at hp
  obtain rfl := read_flat hp
  have B2 := Lib.hid (next (up B1.out _) hB)
  have A2 := Lib.hid (A1.out.later hB)
  clear hB hp B1 A1
  go_wp2_with fail
  refine (Read_any ae _ (by decide) _ _ (HE.out _ (up B2.out _))).mono ?_
  rintro e W3 ⟨hp, hB⟩
  rw [aw3] at hp
  obtain rfl := read_flat hp
  have B3 := Lib.hid (next (up B2.out _) hB)
  have A3 := Lib.hid ((A2.out.later (Kit.below_alloc _ _)).later hB)
  have D3 := Lib.hid ((Bx.new W2 (flat 1 (-5) (bs [])) (.slice none 0 0) (.inl ⟨rfl, rfl⟩)).later hB)
  clear hB hp B2 A2
  go_wp2_with fail
  refine (Read_any ae _ (by decide) _ _ (HE.out _ (up B3.out _))).mono ?_
  rintro e W4 ⟨hp, hB⟩
  rw [aw4] at hp
  obtain rfl := read_flat hp
  have B4 := Lib.hid (next (up B3.out _) hB)
  have A4 := Lib.hid ((A3.out.later (Kit.below_alloc _ _)).later hB)
  have D4 := Lib.hid ((D3.out.later (Kit.below_alloc _ _)).later hB)
  clear hB hp B3 A3 D3
  go_wp2_with fail
  refine (Encode_any ae (flat 1 1 (bs [])) ⟨by decide, fun y hy => by cases hy⟩ 0 _ _ (Nat.zero_le _) (HE.out _ (up B4.out _)) rep_flat).mono ?_
  rintro e W5 ⟨rfl, hB⟩
  rw [if_pos aw5.1, aw5.2]
  have B5 := Lib.hid (next (up B4.out _) hB)
  have A5 := Lib.hid ((A4.out.later (Kit.below_alloc _ _)).later hB)
  have D5 := Lib.hid ((D4.out.later (Kit.below_alloc _ _)).later hB)
  clear hB B4 A4 D4
  go_wp2_with fail
  refine (Decode_any ae _ (by decide) _ _ (HE.out _ B5.out)).mono ?_
  rintro e W6 ⟨hp, hB⟩
  rw [aw6] at hp
  obtain rfl := dec_err hp
  have B6 := Lib.hid (next B5.out hB)
  have A6 := Lib.hid (A5.out.later hB)
  have D6 := Lib.hid (D5.out.later hB)
  clear hB hp B5 A5 D5
  go_wp2_with fail
  refine (Decode_any ae _ (by decide) _ _ (HE.out _ (up B6.out _))).mono ?_
  rintro e W7 ⟨hp, hB⟩
  rw [aw7] at hp
  obtain rfl := dec_err hp
  have B7 := Lib.hid (next (up B6.out _) hB)
  have A7 := Lib.hid ((A6.out.later (Kit.below_alloc _ _)).later hB)
  have D7 := Lib.hid ((D6.out.later (Kit.below_alloc _ _)).later hB)
  clear hB hp B6 A6 D6
  go_wp2_with fail
  refine (Read_any ae _ (by decide) _ _ (HE.out _ (up B7.out _))).mono ?_
  rintro e W8 ⟨hp, hB⟩
  rw [aw8] at hp
  obtain rfl := read_err hp
  have B8 := Lib.hid (next (up B7.out _) hB)
  have A8 := Lib.hid ((A7.out.later (Kit.below_alloc _ _)).later hB)
  have D8 := Lib.hid ((D7.out.later (Kit.below_alloc _ _)).later hB)
  clear hB hp B7 A7 D7
  go_wp2_with fail
  refine (Decode_any ae _ (by decide) _ _ (HE.out _ (up B8.out _))).mono ?_
  rintro e W9 ⟨hp, hB⟩
  rw [aw9] at hp
  obtain rfl := dec_err hp
  have B9 := Lib.hid (up (next (up B8.out _) hB) (.cells #[.int .i64 0, .int .i64 0, .string (bs []), .slice none 0 0] 30))
  have A9 := Lib.hid (((A8.out.later (Kit.below_alloc _ _)).later hB).later (Kit.below_alloc _ (.cells #[.int .i64 0, .int .i64 0, .string (bs []), .slice none 0 0] 30)))
  have D9 := Lib.hid (((D8.out.later (Kit.below_alloc _ _)).later hB).later (Kit.below_alloc _ (.cells #[.int .i64 0, .int .i64 0, .string (bs []), .slice none 0 0] 30)))
  clear hB hp B8 A8 D8
  have BA := Lib.hid (up (up B9.out (.cells #[.int .i64 1, .int .i64 1, .string ⟨#[]⟩, .slice none 0 0, .int .i64 2, .int .i64 0, .string ⟨#[97, 34, 98]⟩, .slice none 0 0, .int .i64 3, .int .i64 7, .string ⟨#[]⟩, .slice none 0 0, .int .i64 0, .int .i64 0, .string ⟨#[]⟩, .slice none 0 0] 30)) (.cells #[.int .i64 5, .int .i64 0, .string ⟨#[]⟩, .slice (some ⟨W9.heap.size + 1, 0, none⟩) 4 4] 30))
  have AA := Lib.hid ((A9.out.later (Kit.below_alloc _ (.cells #[.int .i64 1, .int .i64 1, .string ⟨#[]⟩, .slice none 0 0, .int .i64 2, .int .i64 0, .string ⟨#[97, 34, 98]⟩, .slice none 0 0, .int .i64 3, .int .i64 7, .string ⟨#[]⟩, .slice none 0 0, .int .i64 0, .int .i64 0, .string ⟨#[]⟩, .slice none 0 0] 30))).later (Kit.below_alloc _ (.cells #[.int .i64 5, .int .i64 0, .string ⟨#[]⟩, .slice (some ⟨W9.heap.size + 1, 0, none⟩) 4 4] 30)))
  have DA := Lib.hid ((D9.out.later (Kit.below_alloc _ (.cells #[.int .i64 1, .int .i64 1, .string ⟨#[]⟩, .slice none 0 0, .int .i64 2, .int .i64 0, .string ⟨#[97, 34, 98]⟩, .slice none 0 0, .int .i64 3, .int .i64 7, .string ⟨#[]⟩, .slice none 0 0, .int .i64 0, .int .i64 0, .string ⟨#[]⟩, .slice none 0 0] 30))).later (Kit.below_alloc _ (.cells #[.int .i64 5, .int .i64 0, .string ⟨#[]⟩, .slice (some ⟨W9.heap.size + 1, 0, none⟩) 4 4] 30)))
  have FA := Lib.hid (four_new (W9.alloc (.cells #[.int .i64 0, .int .i64 0, .string (bs []), .slice none 0 0] 30)))
  simp only [World.size_alloc] at FA
  have n1 := AA.out.1.1
  have n2 := AA.out.1.2.1
  have n3 := AA.out.1.2.2.1
  have n4 := AA.out.1.2.2.2
  clear B9 A9 D9
  go_wp2_with fail
  clear n1 n2 n3 n4
  refine (refSame_any fourV fourV _ _ _ _ (Nat.le_refl _) AA.out.rep FA.out.rep).mono ?_
  rintro e X1 ⟨rfl, hB⟩
  rw [aw12]
  have BX1 := Lib.hid (next BA.out hB)
  have AX1 := Lib.hid (AA.out.later hB)
  have DX1 := Lib.hid (DA.out.later hB)
  have FX1 := Lib.hid (FA.out.later hB)
  clear hB BA AA DA FA
  obtain ⟨p1, p2, p3, p4⟩ := AX1.out.1
  obtain ⟨q1, q2, q3, q4⟩ := DX1.out.1
  obtain ⟨r1, r2, r3, r4⟩ := FX1.out.1
  go_wp2_with fail
  clear p1 p2 p3 p4 q1 q2 q3 q4 r1 r2 r3 r4
  refine (refSame_any (flat 1 (-5) (bs [])) (flat 1 (-5) (bs [])) _ _ _ _ (Nat.le_refl _) DX1.out.rep rep_flat).mono ?_
  rintro e X2 ⟨rfl, hB⟩
  rw [aw14]
  have BX2 := Lib.hid (next BX1.out hB)
  have AX2 := Lib.hid (AX1.out.later hB)
  have DX2 := Lib.hid (DX1.out.later hB)
  have FX2 := Lib.hid (FX1.out.later hB)
  clear hB BX1 AX1 DX1 FX1
  obtain ⟨p1, p2, p3, p4⟩ := AX2.out.1
  obtain ⟨q1, q2, q3, q4⟩ := DX2.out.1
  obtain ⟨r1, r2, r3, r4⟩ := FX2.out.1
  go_wp2_with fail
  clear p1 p2 p3 p4 q1 q2 q3 q4 r1 r2 r3 r4
  refine (right_any ae fourV four_fits _ _ _ (Nat.le_refl _) (HE.out _ BX2.out) FX2.out.rep).mono ?_
  rintro e X3 ⟨rfl, hB⟩
  rw [aw10]
  have BX3 := Lib.hid (next BX2.out hB)
  have AX3 := Lib.hid (AX2.out.later hB)
  have DX3 := Lib.hid (DX2.out.later hB)
  have FX3 := Lib.hid (FX2.out.later hB)
  clear hB BX2 AX2 DX2 FX2
  obtain ⟨p1, p2, p3, p4⟩ := AX3.out.1
  obtain ⟨q1, q2, q3, q4⟩ := DX3.out.1
  obtain ⟨r1, r2, r3, r4⟩ := FX3.out.1
  go_wp2_with fail
  clear p1 p2 p3 p4 q1 q2 q3 q4 r1 r2 r3 r4
  refine (right_any ae (flat 0 1 (bs [])) ⟨by decide, fun y hy => by cases hy⟩ _ _ _ (Nat.le_refl _) (HE.out _ BX3.out) rep_flat).mono ?_
  rintro e X4 ⟨rfl, hB⟩
  rw [aw11]
  have BX4 := Lib.hid (next BX3.out hB)
  have AX4 := Lib.hid (AX3.out.later hB)
  have DX4 := Lib.hid (DX3.out.later hB)
  have FX4 := Lib.hid (FX3.out.later hB)
  clear hB BX3 AX3 DX3 FX3
  obtain ⟨p1, p2, p3, p4⟩ := AX4.out.1
  obtain ⟨q1, q2, q3, q4⟩ := DX4.out.1
  obtain ⟨r1, r2, r3, r4⟩ := FX4.out.1
  go_wp2_with fail
  clear p1 p2 p3 p4 q1 q2 q3 q4 r1 r2 r3 r4
  refine (same_any fourV fourV _ _ _ _ (Nat.le_refl _) FX4.out.rep AX4.out.rep).mono ?_
  rintro e X5 ⟨rfl, hB⟩
  rw [aw12]
  have BX5 := Lib.hid (next BX4.out hB)
  have AX5 := Lib.hid (AX4.out.later hB)
  have DX5 := Lib.hid (DX4.out.later hB)
  have FX5 := Lib.hid (FX4.out.later hB)
  clear hB BX4 AX4 DX4 FX4
  obtain ⟨p1, p2, p3, p4⟩ := AX5.out.1
  obtain ⟨q1, q2, q3, q4⟩ := DX5.out.1
  obtain ⟨r1, r2, r3, r4⟩ := FX5.out.1
  go_wp2_with fail
  clear p1 p2 p3 p4 q1 q2 q3 q4 r1 r2 r3 r4
  refine (same_any fourV (flat 1 (-5) (bs [])) _ _ _ _ (Nat.le_refl _) FX5.out.rep DX5.out.rep).mono ?_
  rintro e X6 ⟨rfl, hB⟩
  rw [aw13]
  have BX6 := Lib.hid (next BX5.out hB)
  have AX6 := Lib.hid (AX5.out.later hB)
  have DX6 := Lib.hid (DX5.out.later hB)
  have FX6 := Lib.hid (FX5.out.later hB)
  clear hB BX5 AX5 DX5 FX5
  obtain ⟨p1, p2, p3, p4⟩ := AX6.out.1
  obtain ⟨q1, q2, q3, q4⟩ := DX6.out.1
  obtain ⟨r1, r2, r3, r4⟩ := FX6.out.1
  go_wp2_with fail
  clear p1 p2 p3 p4 q1 q2 q3 q4 r1 r2 r3 r4
  go_ret
  exact ⟨ret_bool rfl, BX6.out⟩
end Go.Proofs.YtbmhlpojgiminaaGreatDoor.Val
/- Layer 3's laws: what ValCut and others share. -/
namespace Go.Proofs.YtbmhlpojgiminaaGreatDoor.Val
open Go.RowKit
open Kit (ret_int ret_bool Moved)

attribute [local go_sem] Oper.semAt_some

def listIn : Vl := .mk 5 0 (bs []) [flat 5 0 (bs [])]
def listOne : Vl := .mk 5 0 (bs []) [flat 0 0 (bs [])]
theorem cut1 : rightV listIn = false := by kernel_rfl
theorem cut2 : rightV listOne = true ∧ encV listOne = [10, 2, 0] := ⟨by kernel_rfl, by kernel_rfl⟩
theorem cut3 : decR ((bs [10, 2, 0]).extract 0 2 ++ ⟨#[10, 0]⟩) 0 = .inl 30 := by kernel_rfl
theorem cut4 : sameV (flat 0 0 (bs [])) (flat 0 0 (bs [])) = true := by kernel_rfl
theorem one_fits (k : Int) : (Vl.mk 5 0 (bs []) [flat k 0 (bs [])]).fits := ⟨by show (bs []).size ≤ _; decide, fun y hy => by
  simp only [Vl.l, List.mem_cons, List.not_mem_nil, or_false] at hy
  subst hy; show (bs []).size ≤ _; decide⟩
theorem one_new (W : World) (k : Int) : Rep (W.alloc (.cells #[.int .i64 k, .int .i64 0, .string ⟨#[]⟩, .slice none 0 0] 30)).heap.size (W.alloc (.cells #[.int .i64 k, .int .i64 0, .string ⟨#[]⟩, .slice none 0 0] 30)) (.mk 5 0 (bs []) [flat k 0 (bs [])]) (.agg #[.int .i64 5, .int .i64 0, .string ⟨#[]⟩, .slice (some ⟨W.heap.size, 0, none⟩) 1 1]) := by
  refine rep_mk.2 ⟨_, rfl, .inr ⟨W.heap.size, 0, 1, by simp, by simp, rfl, Nat.le_refl 1, by decide, repC_flat _ _ ?_ ?_⟩⟩
  · intro y hy
    simp only [List.mem_cons, List.not_mem_nil, or_false] at hy
    subst hy; rfl
  · intro j u hu
    rw [show [flat k 0 (bs [])].flatMap cellsF = [.int .i64 k, .int .i64 0, .string ⟨#[]⟩, .slice none 0 0] from rfl] at hu
    exact Kit.cell_new W _ _ (0 + j) (by simpa using hu)
theorem take_bs (l : List UInt8) (k : Nat) : (bs l).extract 0 k = bs (l.take k) := by
  apply bytes_ext
  rw [extract_list, bs_list, bs_list]
  simp

theorem ext_size (s : ByteArray) (m : Nat) : (s.extract 0 m).size = min m s.size := by rw [← data_len, extract_list, List.length_take, List.length_drop, data_len]; omega
end Go.Proofs.YtbmhlpojgiminaaGreatDoor.Val
