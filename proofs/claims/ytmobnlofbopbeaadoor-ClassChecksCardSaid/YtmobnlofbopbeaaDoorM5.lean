/- A row's list of numbers, for layer 4's laws. -/
import Derived.Test.YtmobnlofbopbeaaDoorClassRow
import Derived.Test.YtmobnlofbopbeaaDoorLaw4Vals
import Derived.Test.YtmobnlofbopbeaaDoorM1
namespace Go.Proofs.YtmobnlofbopbeaaDoor.RowKit
open Go.ChangeShapes Go.WideShapes Go.ChangeAt Go.RowKit Go.Deep Go.Joins
open Cls

section
variable {H : Type} {enc : TypeId × Value → H} {W : World} {v : Value} {d : DataW H} {p : List MemPlace} {base : Nat}
set_option maxRecDepth 100000 in
theorem ints4 (hv : Value.okWide Tryd.prog W .any base 28 v) (h : DataW.Trod enc Tryd.prog W 0 (fun _ => true) true 28 v d p) :
    ∃ l : List Int, IntsL W l v ∧ ∀ y ∈ l, -9223372036854775808 ≤ y ∧ y ≤ 9223372036854775807 := by
  obtain ⟨a0, len0, cap0, rfl⟩ := okWide_slice Tryd.underlying28 hv
  obtain ⟨fuel, hf⟩ := h
  rcases open_ints Tryd.underlying28 Tryd.underlying3 cellsInt hf with ⟨hcs, _⟩ | ⟨a, len', cap', zs, hcs, _, hl, hm, hz, _, hcell, hwz⟩
  · simp only [Value.cells, List.cons.injEq, and_true, Value.slice.injEq] at hcs
    obtain ⟨rfl, rfl, rfl⟩ := hcs
    exact ⟨[], .inl ⟨rfl, _, _, rfl⟩, by simp⟩
  · simp only [Value.cells, List.cons.injEq, and_true, Value.slice.injEq] at hcs
    obtain ⟨rfl, rfl, rfl⟩ := hcs
    have hlz : len0 ≤ zs.length := by simp only [if_true] at hz; omega
    by_cases hl0 : len0 = 0
    · subst hl0
      exact ⟨[], .inl ⟨rfl, _, _, rfl⟩, by simp⟩
    · have h0 := hcell 0 (by omega)
      have hsp := spot_none (add_zero a ▸ h0)
      obtain ⟨b, o, s⟩ := a
      simp only at hsp
      subst hsp
      have hlt := Kit.lt_of_cell h0
      have hlen : (zs.take len0).length = len0 := by rw [List.length_take, Nat.min_eq_left hlz]
      refine ⟨zs.take len0, .inr ⟨b, o, cap0, by rw [hlen], by rw [hlen]; omega, hlt, fun i x hx => ?_⟩, fun x hx => bounds_i64 (hwz x (List.mem_of_mem_take hx))⟩
      have hi : i < len0 := by have := (List.getElem?_eq_some_iff.1 hx).1; omega
      have h1 := hcell i (by omega)
      rw [Addr.add_mid] at h1
      rw [h1]
      rw [List.getElem?_take_of_lt hi] at hx
      rw [List.getD_eq_getElem?_getD, hx]; rfl
end
end Go.Proofs.YtmobnlofbopbeaaDoor.RowKit
/- A row's raw class, and raw value, for layer 4's laws. -/
namespace Go.Proofs.YtmobnlofbopbeaaDoor.RowKit
open Go.ChangeShapes Go.WideShapes Go.ChangeAt Go.RowKit Go.Deep Go.Joins
open Cls
open Val (data_len)

theorem cellsField : Tryd.prog.cellsOf 46 = 4 := by kernel_rfl
theorem cellsType : Tryd.prog.cellsOf 44 = 2 := by kernel_rfl
theorem cellsClass : Tryd.prog.cellsOf 27 = 2 := by kernel_rfl
theorem cellsVal : Tryd.prog.cellsOf 31 = 4 := by kernel_rfl

section
variable {H : Type} {enc : TypeId × Value → H} {W : World} {v : Value} {d : DataW H} {p : List MemPlace} {base : Nat}

set_option maxRecDepth 100000 in
theorem ty_cells {cs : List Value} {x : DataW H × List MemPlace} {n : Nat} (h : DataW.trod enc Tryd.prog W 0 (fun _ => true) true n 44 cs = some x) : ∃ k o : Int, cs = [.int .i64 k, .int .i64 o] := by
  obtain ⟨ys, m, rfl, hx, hlen, hyl, hf⟩ := DataW.trod_struct Tryd.underlying44 h
  rw [cellsType] at hlen
  have hys : ys.length = 2 := hyl
  match cs, hlen with
  | [c0, c1], _ =>
    match ys, hys with
    | [y0, y1], _ =>
      obtain ⟨k, e0, _, w0⟩ := DataW.trod_int Tryd.underlying3 (hf 0 _ rfl)
      obtain ⟨a, e1, _, w1⟩ := DataW.trod_int Tryd.underlying3 (hf 1 _ rfl)
      have f0 : c0 = .int .i64 k := by simpa [cellsInt] using e0
      have f1 : c1 = .int .i64 a := by simpa [cellsInt] using e1
      subst f0 f1
      exact ⟨k, a, rfl⟩

set_option maxRecDepth 100000 in
/-- A field's cells. -/
theorem fd_cells {cs : List Value} {x : DataW H × List MemPlace} {n : Nat} (h : DataW.trod enc Tryd.prog W 0 (fun _ => true) true n 46 cs = some x)
    (hz : ∀ k ∈ x.1.weights Tryd.prog 46, k ≤ reachBytes) : ∃ f : Cls.Fd, f.nm.size ≤ 140737488351232 ∧ cs = cellsFd f := by
  obtain ⟨ys, m, rfl, hx, hlen, hyl, hf⟩ := DataW.trod_struct Tryd.underlying46 h
  rw [cellsField] at hlen
  have hys : ys.length = 3 := hyl
  match cs, hlen with
  | [c0, c1, c2, c3], _ =>
    match ys, hys with
    | [y0, y1, y2], _ =>
      obtain ⟨s, e0, x0, w0⟩ := DataW.trod_string Tryd.underlying9 (hf 0 _ rfl)
      obtain ⟨k, o, e1⟩ := ty_cells (hf 1 _ rfl)
      obtain ⟨bb, e2, _⟩ := DataW.trod_bool Tryd.underlying4 (hf 2 _ rfl)
      have f0 : c0 = .string s := by simpa [cellsStr] using e0
      have f1 : c1 = .int .i64 k ∧ c2 = .int .i64 o := by simpa [cellsStr, cellsType] using e1
      have f2 : c3 = .bool bb := by simpa [cellsStr, cellsType, cellsBool] using e2
      obtain ⟨f1, f3⟩ := f1
      subst f0 f1 f2 f3
      have hs := hz s.data.toList.length (by rw [hx]; simp [DataW.weights, DataW.weightsEach, Tryd.underlying46, x0])
      rw [data_len] at hs
      exact ⟨⟨s, k, o, bb⟩, by simp only [reachBytes] at hs; exact hs, rfl⟩

set_option maxRecDepth 100000 in
/-- A list of fields. -/
theorem fdsL {n : Nat} {v : Value} {x : DataW H × List MemPlace} (h : DataW.trod enc Tryd.prog W 0 (fun _ => true) true n 25 [v] = some x)
    (hz : ∀ k ∈ x.1.weights Tryd.prog 25, k ≤ reachBytes) : ∃ l : List Cls.Fd, (∀ f ∈ l, f.nm.size ≤ 140737488351232) ∧ FdC W l v := by
  rcases open_slice Tryd.underlying25 h with ⟨hcs, _⟩ | ⟨a, len0, cap0, m, q, D, Pl, hcs, _, hl, hm, hmm, hx, hel⟩
  · simp only [List.cons.injEq, and_true] at hcs
    subst hcs
    exact ⟨[], by simp, .inl ⟨rfl, _, _, rfl⟩⟩
  · simp only [List.cons.injEq, and_true] at hcs
    subst hcs
    rw [cellsField] at hel
    have hlz : len0 ≤ m := by simp only [if_true] at hmm; omega
    have hone : ∀ i : Fin len0, ∃ c : Cls.Fd, c.nm.size ≤ 140737488351232 ∧ ∀ j u, (cellsFd c)[j]? = some u → W.cell? ((a.add (i.1 * 4)).add j) = some u := fun i => by
      obtain ⟨cs', h1, h2⟩ := hel i.1 (by omega)
      obtain ⟨c, hok, rfl⟩ := fd_cells h2 (fun k hk => hz k (by
        rw [hx]
        simp only [DataW.weights, Tryd.underlying25, List.mem_cons, List.mem_append]
        exact .inr (.inl (weightsAll_mem hk (List.mem_map.2 ⟨i.1, List.mem_range.2 i.2, rfl⟩)))))
      obtain ⟨_, h3, h4⟩ := World.cells?_some h1
      refine ⟨c, hok, fun j u hj => ?_⟩
      rw [h4 j (by have := (List.getElem?_eq_some_iff.1 hj).1; simpa using this)]; exact hj
    by_cases hl0 : len0 = 0
    · subst hl0
      exact ⟨[], by simp, .inl ⟨rfl, _, _, rfl⟩⟩
    · obtain ⟨u0, h0⟩ : ∃ u, W.cell? ((a.add (0 * 4)).add 0) = some u := by
        obtain ⟨c, _, h⟩ := hone ⟨0, by omega⟩
        exact ⟨_, h 0 _ rfl⟩
      have hsp := spot_none (add_zero a ▸ add_zero (a.add 0) ▸ h0)
      obtain ⟨b, o, s⟩ := a
      simp only at hsp
      subst hsp
      have hlt := Kit.lt_of_cell (add_zero (⟨b, o, none⟩ : Addr) ▸ add_zero ((⟨b, o, none⟩ : Addr).add 0) ▸ h0)
      refine ⟨List.ofFn fun i => Classical.choose (hone i), fun c hc => ?_, .inr ⟨b, o, cap0, by simp, by rw [List.length_ofFn]; omega, by rw [List.length_ofFn]; exact hl, hm, hlt, range_fds _ _ fun i c hi j u hu => ?_⟩⟩
      · rw [List.mem_ofFn] at hc
        obtain ⟨i, rfl⟩ := hc
        exact (Classical.choose_spec (hone i)).1
      · rw [List.getElem?_ofFn] at hi
        split at hi
        · rename_i hil
          have hc := Option.some.inj hi
          have hh := (Classical.choose_spec (hone ⟨i, hil⟩)).2
          rw [hc] at hh
          have g := hh j u hu
          rw [Addr.add_mid, Addr.add_mid] at g
          exact g
        · cases hi

set_option maxRecDepth 100000 in
/-- A class. -/
theorem cls4 (hv : Value.okWide Tryd.prog W .any base 27 v) (h : DataW.Trod enc Tryd.prog W 0 (fun _ => true) true 27 v d p)
    (hz : ∀ k ∈ d.weights Tryd.prog 27, k ≤ reachBytes) : ∃ (x : Cl) (xlv : Value), v = .agg #[.string x.nm, xlv] ∧ x.fits ∧ FdC W x.l xlv := by
  obtain ⟨v0, v1, y0, y1, n, rfl, rfl, rfl, h0, h1⟩ := open_agg2 Tryd.underlying27 (by kernel_rfl) cellsClass hv h
  obtain ⟨s, e0, x0, w0⟩ := DataW.trod_string Tryd.underlying9 h0
  simp only [List.cons.injEq, and_true] at e0
  subst e0
  obtain ⟨l, hl, hL⟩ := fdsL h1 (fun k hk => hz k (by
    simp only [DataW.weights, DataW.weightsEach, Tryd.underlying27, List.map_cons, List.map_nil, List.mem_append]
    exact .inr (.inl hk)))
  have hs := hz s.data.toList.length (by simp [DataW.weights, DataW.weightsEach, Tryd.underlying27, x0])
  rw [data_len] at hs
  exact ⟨⟨s, l⟩, v1, rfl, ⟨by simp only [reachBytes] at hs; exact hs, hl⟩, hL⟩

set_option maxRecDepth 100000 in
/-- A value (of its list only that it is one). -/
theorem val4 (hv : Value.okWide Tryd.prog W .any base 31 v) (h : DataW.Trod enc Tryd.prog W 0 (fun _ => true) true 31 v d p)
    (hz : ∀ k ∈ d.weights Tryd.prog 31, k ≤ reachBytes) : ∃ (k n : Int) (s : ByteArray) (a : Option Addr) (len cap : Nat), v = .agg #[.int .i64 k, .int .i64 n, .string s, .slice a len cap] ∧ s.size ≤ 140737488351232 := by
  obtain ⟨v0, v1, v2, v3, y0, y1, y2, y3, n, rfl, rfl, rfl, h0, h1, h2, h3⟩ := open_agg4 Tryd.underlying31 (by kernel_rfl) cellsVal hv h
  obtain ⟨k, e0, _, w0⟩ := DataW.trod_int Tryd.underlying3 h0
  obtain ⟨a, e1, _, w1⟩ := DataW.trod_int Tryd.underlying3 h1
  obtain ⟨s, e2, x2, w2⟩ := DataW.trod_string Tryd.underlying9 h2
  simp only [List.cons.injEq, and_true] at e0 e1 e2
  subst e0 e1 e2
  have hs := hz s.data.toList.length (by simp [DataW.weights, DataW.weightsEach, Tryd.underlying31, x2])
  rw [data_len] at hs
  have hs2 : s.size ≤ 140737488351232 := by simp only [reachBytes] at hs; exact hs
  rcases open_slice Tryd.underlying29 h3 with ⟨hcs, _⟩ | ⟨a4, len0, cap0, m, q, D, Pl, hcs, _⟩
  · simp only [List.cons.injEq, and_true] at hcs
    subst hcs
    exact ⟨k, a, s, none, 0, 0, rfl, hs2⟩
  · simp only [List.cons.injEq, and_true] at hcs
    subst hcs
    exact ⟨k, a, s, _, _, _, rfl, hs2⟩
end
end Go.Proofs.YtmobnlofbopbeaaDoor.RowKit
