/- Layer 4's laws: ClassFits: what Check tells of the law's values. -/
import Derived.Test.YtafnmbbjnafmlaaDoorLaw4FitM
namespace Go.Proofs.YtafnmbbjnafmlaaDoor.Cls
open Go.RowKit
open Val (Vl Rep RepL flat flatV aggV bs pickN pickN_lt cellsF zero4 vInfo3 Fresh cellsV fitsV zeroV rightTy fitsK isRefK)
open Kit (Moved)

theorem cls_ty {V : Cl} (hr : clsR V = true) {i : Nat} {f : Fd} (h : V.l[i]? = some f) : rightTy f.k f.o = true := by
  have := ((clsR_iff V).1 hr).2.2.1 i f h
  unfold fieldR at this
  rw [Bool.and_eq_true, Bool.and_eq_true] at this
  exact this.2.1
theorem valsOf_len (fs : List Fd) (l : List Int) (m : Nat) : (valsOf fs l m).length = fs.length := valsK_len _ _ _ _
theorem valsOf_at {fs : List Fd} {l : List Int} {m i : Nat} {f : Fd} (h : fs[i]? = some f) : (valsOf fs l m)[i]? = some (valF f.k f.o (nOf l i) m) := by
  have hi := (List.getElem?_eq_some_iff.1 h).1
  have hg : fs.getD i ⟨⟨#[]⟩, 1, 0, false⟩ = f := by rw [List.getD_eq_getElem?_getD, h]; rfl
  unfold valsOf valsK
  rw [List.getElem?_map, List.getElem?_range hi, Option.map_some, hg]
theorem vals_sz (fs : List Fd) (l : List Int) (m : Nat) : ∀ y ∈ valsOf fs l m, y.fits := fun y hy => by
  obtain ⟨i, _, rfl⟩ := List.mem_map.1 hy
  exact valF_fitsz _ _ _ _
theorem fits_vals {V : Cl} (hr : clsR V = true) (l : List Int) (m : Nat) (hm : m ≤ 100000) : checkC V (valsOf V.l l m) = (0, 0) :=
  check_ok hr (valsOf_len _ _ _) fun i f v hf hv => by
    rw [valsOf_at hf] at hv
    cases hv
    exact valF_fits _ _ _ _ (cls_ty hr hf) hm
/-- The least values of a class. -/
def zerosOf (fs : List Fd) : List Vl := fs.map fun f => zeroV f.k f.o
theorem fits_zeros {V : Cl} (hr : clsR V = true) : checkC V (zerosOf V.l) = (0, 0) :=
  check_ok hr (by simp [zerosOf]) fun i f v hf hv => by
    unfold zerosOf at hv
    rw [List.getElem?_map, hf] at hv
    cases hv
    exact zero_fits4 _ _ (cls_ty hr hf)
theorem fits_none {V : Cl} (hr : clsR V = true) (l : List Int) (m : Nat) (hm : m ≤ 100000) {a : Nat} {f : Fd} (ha : V.l[a]? = some f) :
    checkC V ((valsOf V.l l m).set a (flat 0 0 ⟨#[]⟩)) = if isRefK f.k then (0, 0) else ((a : Int), 42) := by
  have hal := (List.getElem?_eq_some_iff.1 ha).1
  have hlen : ((valsOf V.l l m).set a (flat 0 0 ⟨#[]⟩)).length = V.l.length := by rw [List.length_set, valsOf_len]
  have hat : ((valsOf V.l l m).set a (flat 0 0 ⟨#[]⟩))[a]? = some (flat 0 0 ⟨#[]⟩) := by
    rw [List.getElem?_set_self (by rw [valsOf_len]; exact hal)]
  have hoth : ∀ (i : Nat) (g : Fd) (v : Vl), i ≠ a → V.l[i]? = some g → ((valsOf V.l l m).set a (flat 0 0 ⟨#[]⟩))[i]? = some v → fitsV v g.k g.o = true := fun i g v hi hg hv => by
    rw [List.getElem?_set_ne (by omega), valsOf_at hg] at hv
    cases hv
    exact valF_fits _ _ _ _ (cls_ty hr hg) hm
  cases hn : isRefK f.k
  · exact check_one hr hlen ha hat ((nil_fits f.k f.o (cls_ty hr ha)).trans hn) hoth
  · refine check_ok hr hlen fun i g v hg hv => ?_
    by_cases hi : i = a
    · subst hi
      rw [ha] at hg; cases hg
      rw [hat] at hv; cases hv
      exact (nil_fits f.k f.o (cls_ty hr ha)).trans hn
    · exact hoth i g v hi hg hv
theorem fits_other {V : Cl} (hr : clsR V = true) (l : List Int) (m : Nat) (hm : m ≤ 100000) {a b : Nat} {f g : Fd} (ha : V.l[a]? = some f) (hb : V.l[b]? = some g) (h1 : f.k = g.k) (h2 : f.o = g.o) :
    checkC V ((valsOf V.l l m).set a (valF g.k g.o (nOf l b) m)) = (0, 0) := by
  have hal := (List.getElem?_eq_some_iff.1 ha).1
  refine check_ok hr (by rw [List.length_set, valsOf_len]) fun i e v he hv => ?_
  by_cases hi : i = a
  · subst hi
    rw [ha] at he; cases he
    rw [List.getElem?_set_self (by rw [valsOf_len]; exact hal)] at hv; cases hv
    rw [h1, h2]
    exact valF_fits _ _ _ _ (cls_ty hr hb) hm
  · rw [List.getElem?_set_ne (by omega), valsOf_at he] at hv
    cases hv
    exact valF_fits _ _ _ _ (cls_ty hr he) hm
abbrev quiteNew : ByteArray := ⟨#[113, 117, 105, 116, 101, 95, 110, 101, 119]⟩
abbrev otherNm : ByteArray := ⟨#[111, 116, 104, 101, 114]⟩
theorem fits_renamed {V : Cl} (hr : clsR V = true) (hn : ∀ f ∈ V.l, ∃ j, j < 6 ∧ f.nm = nameN j) (l : List Int) (m : Nat) (hm : m ≤ 100000) {a : Nat} {f : Fd} (ha : V.l[a]? = some f) :
    checkC ⟨otherNm, V.l.set a ⟨quiteNew, f.k, f.o, f.ix⟩⟩ (valsOf V.l l m) = (0, 0) := by
  have hne : ∀ g ∈ V.l, g.nm ≠ quiteNew := fun g hg e => by
    obtain ⟨j, _, hj⟩ := hn g hg
    have h1 := nameN_size j
    rw [← hj, e] at h1
    exact absurd h1 (by decide)
  have hal := (List.getElem?_eq_some_iff.1 ha).1
  have h1 := once_odd hr ha (g := ⟨quiteNew, f.k, f.o, f.ix⟩) (fun e => hne f (List.mem_of_getElem? ha) e.symm) rfl rfl rfl
  have h2 : clsR ⟨V.nm, V.l.set a ⟨quiteNew, f.k, f.o, f.ix⟩⟩ = true := by
    rw [h1, show rightNm quiteNew = true by kernel_rfl, Bool.true_and, decide_eq_true_iff]
    exact met_iff.2 fun i g hg => hne g (List.mem_of_getElem? hg)
  have h3 : clsR ⟨otherNm, V.l.set a ⟨quiteNew, f.k, f.o, f.ix⟩⟩ = true := (clsR_iff _).2 ⟨by kernel_rfl, ((clsR_iff _).1 h2).2⟩
  refine check_ok h3 (by rw [valsOf_len]; simp) fun i e v he hv => ?_
  rcases set_at he with ⟨rfl, rfl⟩ | ⟨_, he⟩
  · rw [valsOf_at ha] at hv
    cases hv
    exact valF_fits _ _ _ _ (cls_ty hr ha) hm
  · rw [valsOf_at he] at hv
    cases hv
    exact valF_fits _ _ _ _ (cls_ty hr he) hm
theorem zero_cells (K O : Int) : cellsF (zeroV K O) = [.int .i64 (zeroV K O).k, .int .i64 0, .string ⟨#[]⟩, .slice none 0 0] ∧ (zeroV K O).isFlat := by
  unfold zeroV
  split <;> exact ⟨rfl, rfl⟩

/-- What stands in the round in which the least values are laid. -/
structure ZJ (w : World) (fs : List Fd) (k : Nat) (zv : Value) (W : World) : Prop where
  row : W.ownsRow w.heap.size 31 4 zv k ((zerosOf (fs.take k)).flatMap cellsF)
  nil : k = 0 → zv = .slice none 0 0
  below : Below w.heap.size w W
theorem ZJ.later {w : World} {fs : List Fd} {k : Nat} {zv : Value} {W W' : World} (h : ZJ w fs k zv W) (hB : Below W.heap.size W W') : ZJ w fs k zv W' :=
  ⟨Kit.ownsRow_kept h.row (fun j hj => hB.block j (h.row.lt j hj).2), h.nil, h.below.trans (hB.mono h.below.size)⟩
theorem ZJ.slice {w : World} {fs : List Fd} {k : Nat} {zv : Value} {W : World} (h : ZJ w fs k zv W) : ∃ a c, zv = .slice a k c := by
  rcases h.row.2 with ⟨h1, h2⟩ | ⟨g, cap, cur, h1, _⟩
  · exact ⟨none, 0, by rw [h1, h2]⟩
  · exact ⟨_, _, h1⟩
theorem ZJ.push {w : World} {fs : List Fd} {k : Nat} {zv zv' : Value} {W W' : World} {f : Fd} (h : ZJ w fs k zv W) (hf : fs[k]? = some f) (hg : W.grownBy W' zv.ownBlock) (hown : W'.ownsRow w.heap.size 31 4 zv' (k + 1) ((zerosOf (fs.take k)).flatMap cellsF ++ cellsF (zeroV f.k f.o))) : ZJ w fs (k + 1) zv' W' := by
  obtain ⟨hk, he⟩ := List.getElem?_eq_some_iff.1 hf
  refine ⟨?_, fun h => by omega, h.below.trans ((Kit.Moved.of_grownBy hg).below (fun j hj => (h.row.lt j hj).1) h.below.size)⟩
  rw [List.take_succ_eq_append_getElem hk, he]
  unfold zerosOf at hown ⊢
  rw [List.map_append, List.flatMap_append]
  simpa using hown
theorem ZJ.rep {w : World} {fs : List Fd} {zv : Value} {W : World} (h : ZJ w fs fs.length zv W) : RepL W.heap.size W (zerosOf fs) zv := by
  have h1 := h.row
  rw [List.take_length] at h1
  refine Val.repL_own h1 (by simp [zerosOf]) (fun y hy => ?_) h.nil
  obtain ⟨f, _, rfl⟩ := List.mem_map.1 hy
  exact (zero_cells _ _).2
theorem zeros_sz (fs : List Fd) : ∀ y ∈ zerosOf fs, y.fits := fun y hy => by
  obtain ⟨f, _, rfl⟩ := List.mem_map.1 hy
  exact zero_fits _ _
end Go.Proofs.YtafnmbbjnafmlaaDoor.Cls
