/- Layer 4: Encode. -/
import Derived.Test.YtmobnlofbopbeaaDoorClass5
import Derived.Test.YtmobnlofbopbeaaDoorValBs
import Derived.Deep.RegionHeld3
import Derived.Deep.RegionLaw
namespace Go.Proofs.YtmobnlofbopbeaaDoor.Cls
open Go.RowKit
open Kit (ret_int ret_bool Moved)
open Val (Env flat bs bs_size Vl Rep RepL add_bs)
open Wire (numB)

attribute [local go_sem] Oper.semAt_some

/-- The bytes of a name, of a field, of a class. -/
def nmB (s : ByteArray) : List UInt8 := numB (s.size : Int) ++ s.data.toList
def ixN (b : Bool) : Int := if b then 1 else 0
def encFd (f : Fd) : List UInt8 := nmB f.nm ++ (numB f.k ++ (numB f.o ++ numB (ixN f.ix)))
def encC (c : Cl) : List UInt8 := nmB c.nm ++ (numB (c.l.length : Int) ++ c.l.flatMap encFd)
theorem nmB_len {s : ByteArray} (h : s.size ≤ 10000) : (nmB s).length ≤ 10010 := by
  have h1 := Wire.numB_len (s.size : Int)
  have h2 := Val.data_len s
  unfold nmB
  rw [List.length_append]; omega
theorem encFd_len {f : Fd} (h : f.nm.size ≤ 10000) : (encFd f).length ≤ 10040 := by
  have h1 := nmB_len h
  have h2 := Wire.numB_len f.k
  have h3 := Wire.numB_len f.o
  have h4 := Wire.numB_len (ixN f.ix)
  unfold encFd
  rw [List.length_append, List.length_append, List.length_append]; omega
theorem encFds_len : ∀ l : List Fd, (∀ f ∈ l, f.nm.size ≤ 10000) → (l.flatMap encFd).length ≤ l.length * 10040
  | [], _ => by simp
  | f :: r, h => by
    have h1 := encFd_len (h f (by simp))
    have h2 := encFds_len r (fun g hg => h g (by simp [hg]))
    rw [List.flatMap_cons, List.length_append, List.length_cons]; omega

theorem rightTy_range {K O : Int} (h : Val.rightTy K O = true) : 1 ≤ K ∧ K ≤ 5 ∧ 0 ≤ O ∧ O ≤ 4 := by
  unfold Val.rightTy Val.inK at h
  split at h
  · simp at h; omega
  · simp at h; omega
theorem rightNm_size {s : ByteArray} (h : rightNm s = true) : s.size ≤ 20 := by
  unfold rightNm at h
  simp only [Bool.and_eq_true, decide_eq_true_eq] at h
  exact h.2.1
theorem clsR_facts {c : Cl} (h : clsR c = true) : rightNm c.nm = true ∧ c.l.length ≤ 8 ∧ ∀ (i : Nat) (f : Fd), c.l[i]? = some f → fieldAt c.l f.nm = (i : Int) ∧ fieldR f = true := by
  unfold clsR at h
  simp only [Bool.and_eq_true, decide_eq_true_eq] at h
  refine ⟨h.1, h.2.1, fun i f hf => ?_⟩
  have := (allOk_iff c.l c.l 0).1 h.2.2 i f hf
  rw [Nat.zero_add] at this
  unfold okAt at this
  simpa using this
theorem fieldR_facts {f : Fd} (h : fieldR f = true) : f.nm.size ≤ 20 ∧ 1 ≤ f.k ∧ f.k ≤ 5 ∧ 0 ≤ f.o ∧ f.o ≤ 4 := by
  unfold fieldR at h
  simp only [Bool.and_eq_true] at h
  exact ⟨rightNm_size h.1, rightTy_range h.2.1⟩

set_option maxRecDepth 100000 in
theorem nameBytes_any (s : ByteArray) (hs : s.size ≤ 10000) (w : World) :
    Calls Tryd.prog 24 #[.string s] w fun e w' => e = .returned (.string (bs (nmB s))) ∧ Below w.heap.size w w' := by
  have HT := Lib.hid (Wire.text_any s (by omega) w)
  rw [if_pos hs, Val.textB_bs] at HT
  unfold nmB
  go_enter Tryd.func24, Tryd.ntmps24
  go_wp2_with fail
  refine HT.out.mono ?_; rintro e w1 ⟨rfl, hB⟩
  go_wp2
  go_ret
  exact ⟨rfl, hB⟩

set_option maxRecDepth 100000 in
set_option maxHeartbeats 2000000 in
theorem fieldBytes_any (f : Fd) (hs : f.nm.size ≤ 10000) (k1 : -9223372036854775808 ≤ f.k) (k2 : f.k ≤ 9223372036854775807) (o1 : -9223372036854775808 ≤ f.o) (o2 : f.o ≤ 9223372036854775807) (w : World) :
    Calls Tryd.prog 26 #[aggFd f] w fun e w' => e = .returned (.string (bs (encFd f))) ∧ Below w.heap.size w w' := by
  obtain ⟨nm, k, o, ix⟩ := f
  simp only at hs k1 k2 o1 o2
  have HN := Lib.hid (fun W => nameBytes_any nm hs W)
  have HK := Lib.hid (fun W => Wire.num_any k k1 k2 W)
  have HO := Lib.hid (fun W => Wire.num_any o o1 o2 W)
  have h1 := nmB_len hs
  have h2 := Wire.numB_len k
  have h3 := Wire.numB_len o
  have h4 := Wire.numB_len (ixN ix)
  have a1 := add_bs (P := Tryd.prog) (nmB nm) (numB k) (by omega)
  have a2 := add_bs (P := Tryd.prog) (nmB nm ++ numB k) (numB o) (by rw [List.length_append]; omega)
  have a3 := add_bs (P := Tryd.prog) (nmB nm ++ (numB k ++ numB o)) (numB (ixN ix)) (by rw [List.length_append, List.length_append]; omega)
  rw [List.append_assoc] at a2
  rw [List.append_assoc, List.append_assoc] at a3
  unfold encFd
  simp only
  clear h1 h2 h3 h4 hs k1 k2 o1 o2
  have B0 := Lib.hid ((Kit.below_alloc w (.cells #[.string nm, .int .i64 k, .int .i64 o, .bool ix] 46)).drew)
  have P0 := Kit.box4_new w (.string nm) (.int .i64 k) (.int .i64 o) (.bool ix) 46
  have HX := Lib.hid (fun W => Wire.num_any (ixN ix) (by unfold ixN; split <;> decide) (by unfold ixN; split <;> decide) W)
  generalize nmB nm = NB at *
  generalize numB k = NK at *
  generalize numB o = NO at *
  cases ix
  case' false => rw [show ixN false = 0 from rfl] at HX a3 ⊢; generalize numB 0 = NX at *
  case' true => rw [show ixN true = 1 from rfl] at HX a3 ⊢; generalize numB 1 = NX at *
  all_goals
    go_enter Tryd.func26, Tryd.ntmps26
    go_upto_region 4 with fail
    obtain ⟨p0, p1, p2, p3⟩ := P0
    have hp := Kit.lt_of_cell p0
    clear p3
    first | generalize w.alloc (.cells #[.string nm, .int .i64 k, .int .i64 o, .bool false] 46) = W0 at * | generalize w.alloc (.cells #[.string nm, .int .i64 k, .int .i64 o, .bool true] 46) = W0 at *
    have P0 := Lib.hid (And.intro p0 (And.intro p1 p2))
    go_region_law (first
        | (go_simp; go_at_call 24; refine (HN.out _).mono ?_; rintro e w1 ⟨rfl, hB⟩; have P1 := Lib.hid (And.intro ((hB.cell (p := ⟨w.heap.size, 0, none⟩) (Kit.lt_of_cell P0.out.1)).trans P0.out.1) (And.intro ((hB.cell (p := ⟨w.heap.size, 1, none⟩) (Kit.lt_of_cell P0.out.2.1)).trans P0.out.2.1) ((hB.cell (p := ⟨w.heap.size, 2, none⟩) (Kit.lt_of_cell P0.out.2.2)).trans P0.out.2.2))); have B1 := Lib.hid (B0.out.trans (hB.mono B0.out.size)); clear hB p0 p1 p2 P0 HN B0; obtain ⟨p0, p1, p2⟩ := P1.out)
        | (go_simp; go_at_call 25; refine (HK.out _).mono ?_; rintro e w2 ⟨rfl, hB⟩; have P2 := Lib.hid (And.intro ((hB.cell (p := ⟨w.heap.size, 0, none⟩) (Kit.lt_of_cell P1.out.1)).trans P1.out.1) (And.intro ((hB.cell (p := ⟨w.heap.size, 1, none⟩) (Kit.lt_of_cell P1.out.2.1)).trans P1.out.2.1) ((hB.cell (p := ⟨w.heap.size, 2, none⟩) (Kit.lt_of_cell P1.out.2.2)).trans P1.out.2.2))); have B2 := Lib.hid (B1.out.trans (hB.mono B1.out.size)); clear hB p0 p1 p2 P1 HK B1; obtain ⟨p0, p1, p2⟩ := P2.out)
        | (go_simp; go_at_call 25; refine (HO.out _).mono ?_; rintro e w3 ⟨rfl, hB⟩; have P3 := Lib.hid (And.intro ((hB.cell (p := ⟨w.heap.size, 0, none⟩) (Kit.lt_of_cell P2.out.1)).trans P2.out.1) (And.intro ((hB.cell (p := ⟨w.heap.size, 1, none⟩) (Kit.lt_of_cell P2.out.2.1)).trans P2.out.2.1) ((hB.cell (p := ⟨w.heap.size, 2, none⟩) (Kit.lt_of_cell P2.out.2.2)).trans P2.out.2.2))); have B3 := Lib.hid (B2.out.trans (hB.mono B2.out.size)); clear hB p0 p1 p2 P2 HO B2; obtain ⟨p0, p1, p2⟩ := P3.out)
        | (go_simp; go_at_call 25; refine (HX.out _).mono ?_; rintro e w4 ⟨rfl, hB⟩; have B4 := Lib.hid (B3.out.trans (hB.mono B3.out.size)); clear hB p0 p1 p2 P3 HX B3))
    all_goals
      go_wp2
      go_ret
      exact ⟨rfl, B4.out⟩
end Go.Proofs.YtmobnlofbopbeaaDoor.Cls
