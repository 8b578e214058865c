/- Layer 4: Decode. -/
import Derived.Test.YtmobnlofbopbeaaDoorClassRd2
import Derived.Test.YtmobnlofbopbeaaDoorKit8
namespace Go.Proofs.YtmobnlofbopbeaaDoor.Cls
open Go.RowKit
open Kit (ret_int ret_bool Moved)
open Val (Env flat bs Vl Rep RepL)

attribute [local go_sem] Oper.semAt_some

/-- Fields, read one behind the other. -/
def fieldsT (s : ByteArray) : Nat → Int × Int → List Fd × Int × Int
  | 0, st => ([], st)
  | k + 1, st => ((fieldsT s k st).1 ++ [(fieldT s (fieldsT s k st).2).1], (fieldT s (fieldsT s k st).2).2)
def severalT (s : ByteArray) (st : Int × Int) : List Fd × Int × Int := fieldsT s (upT s 8 st).1.toNat (upT s 8 st).2
theorem fieldsT_len (s : ByteArray) : ∀ (k : Nat) (st : Int × Int), (fieldsT s k st).1.length = k
  | 0, _ => rfl
  | k + 1, st => by rw [fieldsT]; simp [fieldsT_len s k st]
theorem upT_range (s : ByteArray) {m : Int} (hm : 0 ≤ m) (st : Int × Int) : 0 ≤ (upT s m st).1 ∧ (upT s m st).1 ≤ m := by
  unfold upT
  split
  · exact ⟨by simp, hm⟩
  · omega
theorem severalT_len (s : ByteArray) (st : Int × Int) : (severalT s st).1.length ≤ 8 := by
  unfold severalT
  rw [fieldsT_len]
  have := upT_range s (m := 8) (by decide) st
  omega
abbrev zeroF : List Value := [.string ⟨#[]⟩, .int .i64 0, .int .i64 0, .bool false]
theorem fInfo : (Tryd.prog.info? 46).map (fun i => (i.zero, i.size, i.bytes)) = some (some (.agg #[.string ⟨#[]⟩, .int .i64 0, .int .i64 0, .bool false]), 4, 40) := by kernel_rfl
theorem cellsFd_one (x : Fd) : ∀ u ∈ cellsFd x, u.oneCell' = true := by
  intro u hu
  simp only [cellsFd, List.mem_cons, List.not_mem_nil, or_false] at hu
  rcases hu with rfl | rfl | rfl | rfl <;> rfl
theorem fdL_own {w : World} {base e n : Nat} {v : Value} {l : List Fd} (h : w.ownsRow base e 4 v n (l.flatMap cellsFd)) (hn : n = l.length) : FdL w.heap.size w l v := by
  subst hn
  rcases h.2 with ⟨h1, h2⟩ | ⟨g, cap, cur, h1, h2⟩
  · left
    exact ⟨by rw [← List.length_eq_zero_iff]; omega, none, 0, h1⟩
  · right
    have hl := h.lt g (by rw [h1]; rfl)
    refine ⟨g, 0, cap, hl.2, h1, by have h3 := h2.2.2.1; have h4 := h2.2.2.2.1; omega, fun j u hu => ?_⟩
    have := h.cells (g := g) (by rw [h1]; rfl) j u hu
    rw [Addr.add_mid] at this
    exact this

/-- What stands in the round. -/
structure SevJ (ae : Addr) (w0 : World) (rb : Nat) (s : ByteArray) (w : World) (st : Int × Int) (k : Nat) (lv : Value) (W : World) : Prop where
  row : W.ownsRow w.heap.size 46 4 lv k ((fieldsT s k st).1.flatMap cellsFd)
  rc : RC ae w0 rb s (fieldsT s k st).2 W
  moved : Moved (fun j => j = rb) w W
  rb : rb < w.heap.size

set_option maxRecDepth 100000 in
set_option maxHeartbeats 4000000 in
theorem several_any (ae : Addr) (w0 : World) (rb : Nat) (s : ByteArray) (st : Int × Int) (w : World) (h : RC ae w0 rb s st w) :
    Calls Tryd.prog 28 #[.func (.func 29) #[.pointer (some ⟨rb, 0, none⟩)] #[], .func (.func 30) #[.pointer (some ⟨rb, 0, none⟩)] #[]] w fun e w' =>
      (∃ lv, e = .returned lv ∧ FdL w'.heap.size w' (severalT s st).1 lv ∧ Val.Fresh w.heap.size lv) ∧ RC ae w0 rb s (severalT s st).2 w' ∧ Moved (fun j => j = rb) w w' := by
  have hrb : rb < w.heap.size := Kit.lt_of_cell h.c0
  have hw0 := h.below.size
  obtain ⟨i0, hi0, hf⟩ : ∃ i0, Tryd.prog.info? 46 = some i0 ∧ (i0.zero, i0.size, i0.bytes) = (some (.agg #[.string ⟨#[]⟩, .int .i64 0, .int .i64 0, .bool false]), 4, 40) := by
    have := fInfo
    cases hi : Tryd.prog.info? 46 with
    | none => rw [hi] at this; cases this
    | some i => rw [hi] at this; exact ⟨i, rfl, Option.some.inj this⟩
  simp only [Prod.mk.injEq] at hf
  obtain ⟨hz0, hz1, hz2⟩ := hf
  have HC := Lib.hid (count_any ae w0 rb s st w h)
  unfold severalT
  have hu := upT_range s (m := 8) (by decide) st
  generalize upT s 8 st = U at *
  obtain ⟨N, su⟩ := U
  obtain ⟨n, rfl⟩ := Int.eq_ofNat_of_zero_le hu.1
  have hn8 : n ≤ 8 := by have := hu.2; simp only at this; omega
  simp only [Int.toNat_natCast] at *
  clear h hu
  go_enter Tryd.func28, Tryd.ntmps28
  go_wp2_with (go_at_call 29; refine HC.out.mono ?_; rintro e w1 ⟨rfl, h1, hm1⟩; have J1 : Hid (SevJ ae w0 rb s w su 0 (.slice none 0 0) w1) := Lib.hid ⟨World.ownsRow_nil _ _ _ _, h1, hm1, hrb⟩; clear h1 hm1 HC)
  go_loopw [5, 8] (fun lv j wr => ∃ k : Nat, k ≤ n ∧ j = .int .i64 k ∧ SevJ ae w0 rb s w su k lv wr) (fun _ j _ => n - (intOf j).toNat)
  case atStart => exact ⟨0, by omega, rfl, J1.out⟩
  case round =>
    obtain ⟨k, hk, rfl, hJ⟩ := hrel
    have J := Lib.hid hJ; clear hJ J1
    by_cases hlt : k < n
    · have i2 : (k : Int) < (n : Int) := by omega
      have HF := Lib.hid (fieldT_any ae w0 rb s (fieldsT s k su).2 wr J.out.rc)
      go_wp2_with (first | (go_at_call 30; refine HF.out.mono ?_; rintro e w2 ⟨rfl, h2, hm2⟩; have J2 := Lib.hid (And.intro h2 (And.intro hm2 (Kit.ownsRow_moved J.out.row hm2 (fun j hj e => by have := J.out.rb; omega)))); clear h2 hm2 HF) | (at_builtin; refine wpList_append_own_at _ rfl _ _ 25 rfl w.heap.size 46 i0 (.agg zeroF.toArray) 4 40 Tryd.underlying25 hi0 hz0 hz1 hz2 rfl (by decide) _ _ _ rfl (J2.out.2.2.alloc _) ⟨w2.heap.size, 0, none⟩ 1 1 (cellsFd (fieldT s (fieldsT s k su).2).1) rfl rfl (fun j u hu => by rw [Addr.add_mid]; exact Kit.cell_new w2 _ _ (0 + j) (by rw [Nat.zero_add, ← Array.getElem?_toList]; exact hu)) (cellsFd_one _) (by unfold maxLen; omega) (by omega) (by have := J.out.moved.size; have := J2.out.2.1.size; simp; omega) ?_; intro v3 W3 hown3 hg3 _ _))
      refine ⟨⟨k + 1, by omega, by push_cast; rfl, ?_, ?_, ?_, J.out.rb⟩, by simp [intOf]; omega⟩
      · rw [fieldsT]
        rw [List.flatMap_append]
        simpa using hown3
      · rw [fieldsT]
        have hg := (J2.out.1.later (Kit.below_alloc w2 (.cells #[.string (fieldT s (fieldsT s k su).2).1.nm, .int .i64 (fieldT s (fieldsT s k su).2).1.k, .int .i64 (fieldT s (fieldsT s k su).2).1.o, .bool (fieldT s (fieldsT s k su).2).1.ix] 46))).moved (Kit.Moved.of_grownBy hg3) (fun j hj => by have := (J.out.row.lt j hj).1; omega) (fun hj => by have := (J.out.row.lt _ hj).1; have := J.out.rb; omega)
        exact hg
      · have hma : Moved (fun j => j = rb) w2 (w2.alloc (.cells #[.string (fieldT s (fieldsT s k su).2).1.nm, .int .i64 (fieldT s (fieldsT s k su).2).1.k, .int .i64 (fieldT s (fieldsT s k su).2).1.o, .bool (fieldT s (fieldsT s k su).2).1.ix] 46)) := Kit.Moved.alloc _ _ _
        exact ((J.out.moved.trans J2.out.2.1 (fun _ _ h => h)).trans hma (fun _ _ h => h)).trans (Kit.Moved.of_grownBy hg3) (fun i hi hj => by have := (J.out.row.lt i hj).1; omega)
    · have hkn : k = n := by omega
      subst hkn
      go_wp2
      go_ret
      exact ⟨⟨_, rfl, fdL_own J.out.row (fieldsT_len s k su).symm, fun j hj => (J.out.row.lt j hj).1⟩, J.out.rc, J.out.moved⟩
/-- The class that is read, and the place behind it. -/
def decC (s : ByteArray) (a : Int) : Option (Cl × Int) :=
  if (severalT s (takeT s (a, 0)).2).2.2 ≠ 0 ∨ clsR ⟨(takeT s (a, 0)).1, (severalT s (takeT s (a, 0)).2).1⟩ = false then none
  else some (⟨(takeT s (a, 0)).1, (severalT s (takeT s (a, 0)).2).1⟩, (severalT s (takeT s (a, 0)).2).2.1)
def DecPost (r : Option (Cl × Int)) (e : Ending) (w' : World) : Prop :=
  match r with
  | none => e = .returned (.tuple #[.agg #[.string ⟨#[]⟩, .slice none 0 0], .int .i64 0, .int .i64 10])
  | some q => ∃ lv, e = .returned (.tuple #[.agg #[.string q.1.nm, lv], .int .i64 q.2, .int .i64 0]) ∧ FdL w'.heap.size w' q.1.l lv

set_option maxRecDepth 100000 in
set_option maxHeartbeats 4000000 in
theorem Decode_any (ae : Addr) (s : ByteArray) (hs : s.size ≤ 140737488351232) (a : Int) (h1 : -9223372036854775808 ≤ a) (h2 : a ≤ 9223372036854775807) (w : World) (hE : Env ae w) :
    Calls Tryd.prog 12 #[.string s, .int .i64 a] w fun e w' => DecPost (decC s a) e w' ∧ Below w.heap.size w w' := by
  have hB0 := Kit.below_alloc2 w (.cells #[.string ⟨#[]⟩, .slice none 0 0] 27) (.cells #[.string s, .int .i64 a, .int .i64 0] 67)
  have e0 := Kit.cell_new (w.alloc (.cells #[.string ⟨#[]⟩, .slice none 0 0] 27)) #[.string s, .int .i64 a, .int .i64 0] 67 0 rfl
  have e1 := Kit.cell_new (w.alloc (.cells #[.string ⟨#[]⟩, .slice none 0 0] 27)) #[.string s, .int .i64 a, .int .i64 0] 67 1 rfl
  have e2 := Kit.cell_new (w.alloc (.cells #[.string ⟨#[]⟩, .slice none 0 0] 27)) #[.string s, .int .i64 a, .int .i64 0] 67 2 rfl
  have ef := fun i => Kit.frozen_new (w.alloc (.cells #[.string ⟨#[]⟩, .slice none 0 0] 27)) #[.string s, .int .i64 a, .int .i64 0] 67 i
  rw [World.size_alloc] at e0 e1 e2
  simp only [World.size_alloc] at ef
  have R0 : RC ae w (w.heap.size + 1) s (a, 0) ((w.alloc (.cells #[.string ⟨#[]⟩, .slice none 0 0] 27)).alloc (.cells #[.string s, .int .i64 a, .int .i64 0] 67)) := ⟨hE, hB0, by omega, hs, ⟨h1, h2⟩, e0, e1, e2, ef⟩
  have y0 := Kit.cell_kept (.cells #[.string s, .int .i64 a, .int .i64 0] 67) (Kit.cell_new w #[.string ⟨#[]⟩, .slice none 0 0] 27 0 rfl)
  have y1 := Kit.cell_kept (.cells #[.string s, .int .i64 a, .int .i64 0] 67) (Kit.cell_new w #[.string ⟨#[]⟩, .slice none 0 0] 27 1 rfl)
  have yf := fun i => (Kit.frozen_kept (a := ⟨w.heap.size, i, none⟩) (.cells #[.string s, .int .i64 a, .int .i64 0] 67) (by simp)).trans (Kit.frozen_new w #[.string ⟨#[]⟩, .slice none 0 0] 27 i)
  have HR := Lib.hid R0
  have HY := Lib.hid (And.intro y0 (And.intro y1 yf))
  have HB := Lib.hid hB0
  have HT := Lib.hid (text_any ae w (w.heap.size + 1) s (a, 0) _ R0)
  clear hB0 e0 e1 e2 ef R0 y0 y1 yf
  go_enter Tryd.func12, Tryd.ntmps12
  go_wp2_with fail
  refine HT.out.mono ?_; rintro e w1 ⟨rfl, r1, m1⟩
  have HS := Lib.hid (several_any ae w (w.heap.size + 1) s (takeT s (a, 0)).2 w1 r1)
  have M1 := Lib.hid m1
  have R1c := Lib.hid r1.c0
  have hD : decC s a = if (severalT s (takeT s (a, 0)).2).2.2 ≠ 0 ∨ clsR ⟨(takeT s (a, 0)).1, (severalT s (takeT s (a, 0)).2).1⟩ = false then none else some (⟨(takeT s (a, 0)).1, (severalT s (takeT s (a, 0)).2).1⟩, (severalT s (takeT s (a, 0)).2).2.1) := rfl
  have hl8 := severalT_len s (takeT s (a, 0)).2
  generalize (takeT s (a, 0)).1 = nm at *
  generalize severalT s (takeT s (a, 0)).2 = F at *
  obtain ⟨l, at', er⟩ := F
  have HD := Lib.hid hD
  clear r1 m1 HT hD HR
  go_wp2_with fail
  refine HS.out.mono ?_; rintro e w2 ⟨⟨lv, rfl, hl, hfr⟩, r2, m2⟩
  obtain ⟨va, vc, rfl, -⟩ := hl.len
  have M2 := Lib.hid (M1.out.trans m2 (fun _ _ h => h))
  have L2 := Lib.hid hl
  have NF := Lib.hid (show ∀ j, (Value.slice va l.length vc).ownBlock = some j → w.heap.size < j from fun j hj => by have h1 := hfr j hj; have h2 := Kit.lt_of_cell R1c.out; dsimp only at h2; omega)
  clear hfr
  have R2 := Lib.hid r2
  have hw2 : w.heap.size + 1 < w2.heap.size := Kit.lt_of_cell r2.c0
  have hn1 : ¬ w.heap.size = w.heap.size + 1 := by omega
  have B3 := Lib.hid ((HB.out.trans (M2.out.below (B := w.heap.size) (fun k hk => by omega) (by simp; omega))).trans ((Kit.below_alloc w2 (.cells #[.string nm, .slice va l.length vc] 27)).mono (by omega)))
  have Y3 := Lib.hid (And.intro (Kit.cell_kept (.cells #[.string nm, .slice va l.length vc] 27) (cell_moved M2.out HY.out.1 hn1)) (And.intro (Kit.cell_kept (.cells #[.string nm, .slice va l.length vc] 27) (cell_moved M2.out HY.out.2.1 hn1)) (fun i => (Kit.frozen_kept (a := ⟨w.heap.size, i, none⟩) (.cells #[.string nm, .slice va l.length vc] 27) (by dsimp only; omega)).trans ((frozen_moved M2.out (a := ⟨w.heap.size, i, none⟩) (by simp; omega) hn1).trans (HY.out.2.2 i)))))
  have C3 := Lib.hid (And.intro (Kit.cell_new w2 #[.string nm, .slice va l.length vc] 27 0 rfl) (Kit.cell_new w2 #[.string nm, .slice va l.length vc] 27 1 rfl))
  have R3 := Lib.hid (r2.later (Kit.below_alloc w2 (.cells #[.string nm, .slice va l.length vc] 27)))
  have HQ := Lib.hid (right_cl ae ⟨nm, l⟩ w2.heap.size _ (.slice va l.length vc) (by simp) R3.out.Env (hl.below (Kit.below_alloc w2 (.cells #[.string nm, .slice va l.length vc] 27)) (Nat.le_refl _)))
  clear hl r2 m2 M1 HS HY HB R2
  have z0 : (w2.alloc (.cells #[.string nm, .slice va l.length vc] 27)).cell? ⟨w.heap.size + 1, 2, none⟩ = some (.int .i64 er) := R3.out.c2
  by_cases he : er = 0
  · subst he
    go_wp2_with fail
    refine HQ.out.mono ?_; rintro e w4 ⟨rfl, hB4⟩
    have B4 := Lib.hid (B3.out.trans (hB4.mono B3.out.size))
    have y0 := (hB4.cell (p := ⟨w.heap.size, 0, none⟩) (Kit.lt_of_cell Y3.out.1)).trans Y3.out.1
    have y1 := (hB4.cell (p := ⟨w.heap.size, 1, none⟩) (Kit.lt_of_cell Y3.out.2.1)).trans Y3.out.2.1
    have f0 := (hB4.frozen (p := ⟨w.heap.size, 0, none⟩) (Kit.lt_of_cell Y3.out.1)).trans (Y3.out.2.2 0)
    have f1 := (hB4.frozen (p := ⟨w.heap.size, 1, none⟩) (Kit.lt_of_cell Y3.out.2.1)).trans (Y3.out.2.2 1)
    have g0 := (hB4.cell (p := ⟨w2.heap.size, 0, none⟩) (Kit.lt_of_cell C3.out.1)).trans C3.out.1
    have g1 := (hB4.cell (p := ⟨w2.heap.size, 1, none⟩) (Kit.lt_of_cell C3.out.2)).trans C3.out.2
    have z1 : w4.cell? ⟨w.heap.size + 1, 1, none⟩ = some (.int .i64 at') := (hB4.cell (p := ⟨w.heap.size + 1, 1, none⟩) (Kit.lt_of_cell R3.out.c1)).trans R3.out.c1
    have H4 := Lib.hid hB4
    have hw4 : w.heap.size < w4.heap.size := Kit.lt_of_cell y0
    clear hB4 HQ z0
    cases hc : clsR ⟨nm, l⟩
    · have HDN := Lib.hid (show decC s a = none by rw [HD.out, if_pos (.inr hc)])
      clear hc
      go_wp2
      have m5 : Moved (fun j => j = w.heap.size) w4 ((w4.setCell ⟨w.heap.size, 0, none⟩ (.string ⟨#[]⟩)).setCell ⟨w.heap.size, 1, none⟩ (.slice none 0 0)) := (Kit.Moved.setCell (fun j => j = w.heap.size) w4 ⟨w.heap.size, 0, none⟩ _ rfl).trans (Kit.Moved.setCell (fun j => j = w.heap.size) _ ⟨w.heap.size, 1, none⟩ _ rfl) (fun _ _ h => h)
      exact bodyPost_ret (v := .tuple #[.agg #[.string ⟨#[]⟩, .slice none 0 0], .int .i64 0, .int .i64 10]) (by simp [results, Tryd.results12, go_sem, y0, y1]) rfl ⟨by rw [HDN.out]; exact rfl, B4.out.trans (m5.below (fun j hj => by omega) (by omega))⟩
    · have HDN := Lib.hid (show decC s a = some (⟨nm, l⟩, at') by rw [HD.out, if_neg (by simp [hc])])
      clear hc
      go_upto_region 5 with fail
      go_region
      go_wp2
      have m5 : Moved (fun j => j = w.heap.size) w4 ((w4.setCell ⟨w.heap.size, 0, none⟩ (.string nm)).setCell ⟨w.heap.size, 1, none⟩ (.slice va l.length vc)) := (Kit.Moved.setCell (fun j => j = w.heap.size) w4 ⟨w.heap.size, 0, none⟩ _ rfl).trans (Kit.Moved.setCell (fun j => j = w.heap.size) _ ⟨w.heap.size, 1, none⟩ _ rfl) (fun _ _ h => h)
      have L4 := (L2.out.below (Kit.below_alloc w2 (.cells #[.string nm, .slice va l.length vc] 27)) (Nat.le_refl _)).below H4.out (by simp)
      have hz4 : w2.heap.size ≤ w4.heap.size := Nat.le_trans (by simp) H4.out.size
      have L5 : FdL ((w4.setCell ⟨w.heap.size, 0, none⟩ (.string nm)).setCell ⟨w.heap.size, 1, none⟩ (.slice va l.length vc)).heap.size ((w4.setCell ⟨w.heap.size, 0, none⟩ (.string nm)).setCell ⟨w.heap.size, 1, none⟩ (.slice va l.length vc)) l (.slice va l.length vc) := by
        rcases L4 with h | ⟨b, o, c, h0, h1, h2, h3⟩
        · exact .inl h
        · refine .inr ⟨b, o, c, by have := m5.size; omega, h1, h2, ?_⟩
          have hb : b ≠ w.heap.size := fun e => by
            have := NF.out b (by rw [h1]; rfl)
            omega
          exact Val.rangeAt_heap h3 (m5.block b (by omega) hb)
      exact bodyPost_ret (v := .tuple #[.agg #[.string nm, .slice va l.length vc], .int .i64 at', .int .i64 0]) (by simp [results, Tryd.results12, go_sem, y0, y1]) rfl ⟨by rw [HDN.out]; exact ⟨_, rfl, L5⟩, (B4.out.trans (m5.below (fun j hj => by omega) (by omega))).drew⟩
  · have hen : (er != 0) = true := by simpa using he
    have HDN := Lib.hid (show decC s a = none by rw [HD.out, if_pos (.inl he)])
    obtain ⟨y0, y1, yf⟩ := Y3.out
    have f0 := yf 0
    have f1 := yf 1
    have hw4 : w.heap.size < w2.heap.size := by omega
    clear yf he HQ
    have hzW : w.heap.size < (w2.alloc (.cells #[.string nm, .slice va l.length vc] 27)).heap.size := by simp; omega
    go_upto_region 3 with fail
    generalize w2.alloc (.cells #[.string nm, .slice va l.length vc] 27) = W3 at *
    go_wp2
    have m5 : Moved (fun j => j = w.heap.size) W3 ((W3.setCell ⟨w.heap.size, 0, none⟩ (.string ⟨#[]⟩)).setCell ⟨w.heap.size, 1, none⟩ (.slice none 0 0)) := (Kit.Moved.setCell (fun j => j = w.heap.size) _ ⟨w.heap.size, 0, none⟩ _ rfl).trans (Kit.Moved.setCell (fun j => j = w.heap.size) _ ⟨w.heap.size, 1, none⟩ _ rfl) (fun _ _ h => h)
    exact bodyPost_ret (v := .tuple #[.agg #[.string ⟨#[]⟩, .slice none 0 0], .int .i64 0, .int .i64 10]) (by simp [results, Tryd.results12, go_sem, y0, y1]) rfl ⟨by rw [HDN.out]; exact rfl, B3.out.trans (m5.below (fun j hj => by omega) (by omega))⟩
end Go.Proofs.YtmobnlofbopbeaaDoor.Cls
