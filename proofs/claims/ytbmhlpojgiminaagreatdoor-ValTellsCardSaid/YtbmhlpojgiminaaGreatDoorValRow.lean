/- What every row of this seat wants: its arguments' readings opened; what is laid; a world that meets the list; the program's own looks. -/
import Derived.Test.YtbmhlpojgiminaaGreatDoorCards
import Derived.Test.YtbmhlpojgiminaaGreatDoorTie
import Derived.Test.YtbmhlpojgiminaaGreatDoorLaw3Of
import Derived.WalkKit
import Derived.ProofKit
import Derived.OpenShut
import Derived.RowKitTokens
import Derived.SizedLaws
import Derived.Carry
import Derived.ChangeSlices
import Derived.Deep.Slices
import Derived.Lib.SmallJoins
import Derived.Lib.LaidU8T
import Derived.MakeChecks
import Derived.Lay
import Derived.SevenTiedAt
import Derived.Stop.LaidErr
import Derived.Deep.DeepHandedRow
import Derived.Deep.DeepWitnessRowRef
namespace Go.Proofs.YtbmhlpojgiminaaGreatDoor.RowKit
open Go.ChangeShapes Go.WideShapes Go.ChangeAt Go.RowKit Go.Deep Go.Joins
open Val

theorem own : ownKnob Tryz.prog.godebug = none := by kernel_rfl
theorem laidOut : laidOutB Tryz.prog = true := by kernel_rfl
theorem cellsInt : Tryz.prog.cellsOf 3 = 1 := by kernel_rfl
theorem cellsStr : Tryz.prog.cellsOf 9 = 1 := by kernel_rfl
theorem cellsRaw : Tryz.prog.cellsOf 24 = 4 := by kernel_rfl
theorem cellsOne : Tryz.prog.cellsOf 52 = 3 := by kernel_rfl
theorem gErr : Tryz.prog.globalNamed "moraine/wire.errWire" = some 2 := by kernel_rfl
theorem gErrType : (Tryz.prog.globals[2]?).map (·.type) = some 109 := by kernel_rfl
theorem cellsS : Tryz.prog.cellsOf 201 = 1 := by kernel_rfl
theorem spot_none {W : World} {a : Addr} {v : Value} (h : W.cell? a = some v) : a.spot = none := by
  unfold World.cell? at h
  split at h
  · split at h
    · cases h
    · rename_i hs; simpa using hs
  · cases h
theorem add_zero (a : Addr) : a.add 0 = a := by unfold Addr.add; simp
theorem star : "*" ++ "errors.errorString" = "*errors.errorString" := by decide
theorem rowPtr (u : TypeId) (h : Tryz.prog.typeName? 3 u = some "*errors.errorString") : u = 179 :=
  typeName_ptr_named (nm := "errors.errorString") (by rw [star]; kernel_rfl) (by kernel_rfl) (by decide) u (by rw [star]; exact h)

/-- What is listed. -/
abbrev laidL : List (String × DataW Unit) := [("unicode/utf8.acceptRanges", Rows.laid_unicode_utf8_acceptRanges), ("moraine/wire.errWire", Rows.laid_moraine_wire_errWire), ("unicode/utf8.first", Rows.laid_unicode_utf8_first)]
theorem first_eq : Rows.laid_unicode_utf8_first = Lib.firstData := by kernel_rfl
theorem accept_eq : (Rows.laid_unicode_utf8_acceptRanges : DataW Unit) = Lib.acceptData := by kernel_rfl

/-- What the row's list gives a walk. -/
theorem env_of_laid {W : World} (h : laidMetH Tryz.prog laidL W) : ∃ ae, Val.Env ae W := by
  rw [MakeChecks.laidMetH_plain _ _ _ (by kernel_rfl)] at h
  have h1 := Lib.laidMet.reads h (n := "unicode/utf8.acceptRanges") (d := Lib.acceptData) (accept_eq ▸ .head _)
  have h2 := Lib.laidMet.reads h (n := "unicode/utf8.first") (d := Lib.firstData) (first_eq ▸ .tail _ (.tail _ (.head _)))
  have hT := utf8Tabs_of_readsT (U8Types.of196 Tryz.lays196) ⟨by kernel_rfl, by kernel_rfl, by kernel_rfl, by kernel_rfl, by kernel_rfl, by kernel_rfl, by kernel_rfl⟩ h2 h1
  obtain ⟨a, s, hv, _, _, _⟩ := laid_sentinel (laidMet.tail h) gErr gErrType Tryz.underlying109 rowPtr Tryz.underlying179 Tryz.underlying201 rfl rfl Tryz.underlying9 cellsS cellsStr
  have hc : W.cell? ⟨2, 0, none⟩ = some (.iface 179 (.pointer (some a))) := by simpa using World.var?_cell gErr hv 0
  exact ⟨a, Kit.lt_of_cell hc, hc, hT⟩

/-- A world that meets the list. -/
noncomputable def laidWorld (os : Os) : World := World.laidAll Tryz.prog os laidL
theorem laid_met (os : Os) (args : Array Value) : laidMetH Tryz.prog laidL ((laidWorld os).forCall (fun _ _ => 0) ⟨#[], args, []⟩).memory := by
  rw [MakeChecks.laidMetH_plain _ _ _ (by kernel_rfl)]
  exact laidMet_laidAll _ (by kernel_rfl) (by kernel_rfl)

theorem weightsAll_mem {H : Type} {P : Program} {e : TypeId} {d : DataW H} {n : Nat} (hn : n ∈ d.weights P e) : ∀ {l : List (DataW H)}, d ∈ l → n ∈ DataW.weightsAll P e l
  | x :: r, hd => by
    rw [DataW.weightsAll, List.mem_append]
    rcases List.mem_cons.1 hd with rfl | h
    · exact .inl hn
    · exact .inr (weightsAll_mem hn h)

section
variable {H : Type} {enc : TypeId × Value → H} {W : World} {v : Value} {d : DataW H} {p : List MemPlace} {base : Nat}

set_option maxRecDepth 100000 in
/-- A raw number's cells. -/
theorem one_cells {cs : List Value} {x : DataW H × List MemPlace} {n : Nat} (h : DataW.trod enc Tryz.prog W 0 (fun _ => true) true n 52 cs = some x)
    (hz : ∀ k ∈ x.1.weights Tryz.prog 52, k ≤ reachBytes) : ∃ c : RawOne, c.Ok ∧ cs = [.int .i64 c.k, .int .i64 c.n, .string c.s] := by
  obtain ⟨ys, m, rfl, hx, hlen, hyl, hf⟩ := DataW.trod_struct Tryz.underlying52 h
  rw [cellsOne] at hlen
  have hys : ys.length = 3 := hyl
  match cs, hlen with
  | [c0, c1, c2], _ =>
    match ys, hys with
    | [y0, y1, y2], _ =>
      obtain ⟨k, e0, _, w0⟩ := DataW.trod_int Tryz.underlying3 (hf 0 _ rfl)
      obtain ⟨a, e1, _, w1⟩ := DataW.trod_int Tryz.underlying3 (hf 1 _ rfl)
      obtain ⟨s, e2, x2, w2⟩ := DataW.trod_string Tryz.underlying9 (hf 2 _ rfl)
      have f0 : c0 = .int .i64 k := by simpa [cellsInt] using e0
      have f1 : c1 = .int .i64 a := by simpa [cellsInt] using e1
      have f2 : c2 = .string s := by simpa [cellsStr] using e2
      subst f0 f1 f2
      have hs := hz s.data.toList.length (by rw [hx]; simp [DataW.weights, DataW.weightsEach, Tryz.underlying52, x2])
      rw [data_len] at hs
      exact ⟨⟨k, a, s⟩, ⟨(bounds_i64 w0).1, (bounds_i64 w0).2, (bounds_i64 w1).1, (bounds_i64 w1).2, by simp only [reachBytes] at hs; exact hs⟩, rfl⟩

set_option maxRecDepth 100000 in
/-- A list of raw numbers. -/
theorem rawL {n : Nat} {v : Value} {x : DataW H × List MemPlace} (h : DataW.trod enc Tryz.prog W 0 (fun _ => true) true n 22 [v] = some x)
    (hz : ∀ k ∈ x.1.weights Tryz.prog 22, k ≤ reachBytes) : ∃ l : List RawOne, (∀ y ∈ l, y.Ok) ∧ RawL W l v := by
  rcases open_slice Tryz.underlying22 h with ⟨hcs, _⟩ | ⟨a, len0, cap0, m, q, D, Pl, hcs, _, hl, hm, hmm, hx, hel⟩
  · simp only [List.cons.injEq, and_true] at hcs
    subst hcs
    exact ⟨[], by simp, .inl ⟨rfl, _, _, rfl⟩⟩
  · simp only [List.cons.injEq, and_true] at hcs
    subst hcs
    rw [cellsOne] at hel
    have hlz : len0 ≤ m := by simp only [if_true] at hmm; omega
    have hone : ∀ i : Fin len0, ∃ c : RawOne, c.Ok ∧ ∀ j u, [Value.int .i64 c.k, Value.int .i64 c.n, Value.string c.s][j]? = some u → W.cell? ((a.add (i.1 * 3)).add j) = some u := fun i => by
      obtain ⟨cs', h1, h2⟩ := hel i.1 (by omega)
      obtain ⟨c, hok, rfl⟩ := one_cells h2 (fun k hk => hz k (by
        rw [hx]
        simp only [DataW.weights, Tryz.underlying22, List.mem_cons, List.mem_append]
        exact .inr (.inl (weightsAll_mem hk (List.mem_map.2 ⟨i.1, List.mem_range.2 i.2, rfl⟩)))))
      obtain ⟨_, h3, h4⟩ := World.cells?_some h1
      refine ⟨c, hok, fun j u hj => ?_⟩
      rw [h4 j (by have := (List.getElem?_eq_some_iff.1 hj).1; simpa using this)]; exact hj
    by_cases hl0 : len0 = 0
    · subst hl0
      exact ⟨[], by simp, .inl ⟨rfl, _, _, rfl⟩⟩
    · obtain ⟨u0, h0⟩ : ∃ u, W.cell? ((a.add (0 * 3)).add 0) = some u := by
        obtain ⟨c, _, h⟩ := hone ⟨0, by omega⟩
        exact ⟨_, h 0 _ rfl⟩
      have hsp := spot_none (add_zero a ▸ add_zero (a.add 0) ▸ h0)
      obtain ⟨b, o, s⟩ := a
      simp only at hsp
      subst hsp
      refine ⟨List.ofFn fun i => Classical.choose (hone i), fun c hc => ?_, .inr ⟨b, o, cap0, by simp, by rw [List.length_ofFn]; exact Nat.le_trans hl hm, fun i c hi => ?_⟩⟩
      · rw [List.mem_ofFn] at hc
        obtain ⟨i, rfl⟩ := hc
        exact (Classical.choose_spec (hone i)).1
      · rw [List.getElem?_ofFn] at hi
        split at hi
        · rename_i hil
          have hc := Option.some.inj hi
          have hh := (Classical.choose_spec (hone ⟨i, hil⟩)).2
          rw [hc] at hh
          have g0 := hh 0 _ rfl
          have g1 := hh 1 _ rfl
          have g2 := hh 2 _ rfl
          rw [Addr.add_mid, Addr.add_mid] at g0 g1 g2
          exact ⟨g0, g1, g2⟩
        · cases hi

set_option maxRecDepth 100000 in
/-- A raw value. -/
theorem raw (hv : Value.okWide Tryz.prog W .any base 24 v) (h : DataW.Trod enc Tryz.prog W 0 (fun _ => true) true 24 v d p)
    (hz : ∀ k ∈ d.weights Tryz.prog 24, k ≤ reachBytes) : ∃ (x : Raw) (xlv : Value), v = .agg #[.int .i64 x.k, .int .i64 x.n, .string x.s, xlv] ∧ x.Ok ∧ RawL W x.l xlv := by
  obtain ⟨v0, v1, v2, v3, y0, y1, y2, y3, n, rfl, rfl, rfl, h0, h1, h2, h3⟩ := open_agg4 Tryz.underlying24 (by kernel_rfl) cellsRaw hv h
  obtain ⟨k, e0, _, w0⟩ := DataW.trod_int Tryz.underlying3 h0
  obtain ⟨a, e1, _, w1⟩ := DataW.trod_int Tryz.underlying3 h1
  obtain ⟨s, e2, x2, w2⟩ := DataW.trod_string Tryz.underlying9 h2
  simp only [List.cons.injEq, and_true] at e0 e1 e2
  subst e0 e1 e2
  obtain ⟨l, hl, hL⟩ := rawL h3 (fun k hk => hz k (by
    simp only [DataW.weights, DataW.weightsEach, Tryz.underlying24, List.map_cons, List.map_nil, List.mem_append]
    exact .inr (.inr (.inr (.inl hk)))))
  have hs := hz s.data.toList.length (by simp [DataW.weights, DataW.weightsEach, Tryz.underlying24, x2])
  rw [data_len] at hs
  exact ⟨⟨k, a, s, l⟩, v3, rfl, ⟨⟨(bounds_i64 w0).1, (bounds_i64 w0).2, (bounds_i64 w1).1, (bounds_i64 w1).2, by simp only [reachBytes] at hs; exact hs⟩, hl⟩, hL⟩
end
end Go.Proofs.YtbmhlpojgiminaaGreatDoor.RowKit
