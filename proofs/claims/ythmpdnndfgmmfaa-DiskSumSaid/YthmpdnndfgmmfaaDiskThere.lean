/- Layer 2: the walk of there. -/
import Derived.Test.YthmpdnndfgmmfaaDiskIter
namespace Go.Proofs.Ythmpdnndfgmmfaa.Disk
open Go.RowKit Go.Shelf

attribute [local go_sem] Oper.semAt_some

theorem cell_alloc_drew {w : World} {a : Addr} {v : Value} (h : w.cell? a = some v) (o : Obj) : (w.alloc o).drew.cell? a = some v := by
  show (w.alloc o).cell? a = some v
  rw [World.cell?_alloc_lt _ _ _ (Kit.lt_of_cell h)]; exact h

theorem there_new (w : World) (cs : List Value) (T : TypeId) : (w.alloc (.cells cs.toArray T)).there w.heap.size 0 cs.length := fun j hj => by
  refine ⟨?_, ?_⟩
  · rw [Nat.zero_add, Kit.cell_new w cs.toArray T j (v := cs[j]) (by simp [hj])]; rfl
  · exact Kit.frozen_new w cs.toArray T (0 + j)

theorem zeroWr : ∀ W, (zeroValue 63).run Try.prog W = .ok (.agg (wrV (0, zeros)).toArray) W := fun W => by
  have h : (Try.prog.info? 63).bind (·.zero) = some (.agg (wrV (0, zeros)).toArray) := by kernel_rfl
  cases hi : Try.prog.info? 63 with
  | none => rw [hi] at h; cases h
  | some i =>
    rw [hi] at h
    simp only [Option.bind_some] at h
    simp [zeroValue, typeInfo, hi, h, Sem.run_bind, Sem.run_pure]

theorem keepsOthers_setCells (b : Nat) : ∀ (vs : List Value) (o : Nat) (w : World), KeepsOthers w (w.setCells b o vs)
  | [], _, w => KeepsOthers.refl w
  | v :: r, o, w => (KeepsOthers.setCell w ⟨b, o, none⟩ v).trans (keepsOthers_setCells b r (o + 1) _)

theorem foldr_skip (K : Nat → List UInt8) (a : Nat) : ∀ (p : List (Nat × List UInt8)) (t : List (Nat × List UInt8)), (∀ y ∈ p, y.1 ≠ a) → (p ++ t).foldr (fun x K => layK K x) K a = t.foldr (fun x K => layK K x) K a
  | [], _, _ => rfl
  | y :: p, t, h => by
    have hy := h y (by simp)
    show layK _ y a = _
    unfold layK
    rw [if_neg (fun e => hy e.symm)]
    exact foldr_skip K a p t fun z hz => h z (by simp [hz])
theorem there_rev (D : Dk) (a : Nat) : D.there a = D.pend.reverse.foldr (fun x K => layK K x) D.kept a := by
  unfold Dk.there; rw [List.foldr_reverse]
theorem there_none (D : Dk) (a : Nat) (h : ∀ x ∈ D.pend, x.1 ≠ a) : D.there a = D.kept a := by
  have := foldr_skip D.kept a D.pend.reverse [] (fun y hy => h y (List.mem_reverse.1 hy))
  rw [List.append_nil] at this
  rw [there_rev, this]; rfl
theorem there_first (D : Dk) (a : Nat) (p : List (Nat × List UInt8)) (x : Nat × List UInt8) (h : p ++ [x] <+: D.pend.reverse) (hx : x.1 = a) (hp : ∀ y ∈ p, y.1 ≠ a) : D.there a = x.2 := by
  obtain ⟨t, ht⟩ := h
  rw [there_rev, ← ht, List.append_assoc, foldr_skip _ _ _ _ hp]
  show layK _ x a = _
  unfold layK
  rw [if_pos hx.symm]

theorem results_there {fn : Func} {P : Program} {p : Tmp} {ty : TypeId} (h : fn.results = #[.cell p ty]) (tmps : Array Value) (w : World) (a : Addr) {v : Value} (hl : (loadVar ty a).run P w = .ok v w) (hp : tmps.getD p undef = .pointer (some a) := by rfl) :
    (results fn tmps).run P w = .ok v w := by
  have hp' : tmps[p]?.getD undef = .pointer (some a) := by simpa using hp
  simp [results, h, hp', asAddr, hl]

/-- Between two rounds: no write of this sector has come. -/
def ThereI (N a : Nat) (W3 : World) (pre : List (Nat × List UInt8)) (W : World) : Prop := (∀ x ∈ pre, x.1 ≠ a) ∧ Below N W3 W
/-- A round has left: its write is one of this sector, and copied. -/
def ThereIx (N a : Nat) (w : World) (c : Code) (pre : List (Nat × List UInt8)) (W : World) : Prop := c = .exit 0 ∧ ∃ p x, pre = p ++ [x] ∧ x.1 = a ∧ (∀ y ∈ p, y.1 ≠ a) ∧ W.rangeAt (N + 2) 0 (secV (fixW x).2) ∧ W.there (N + 1) 0 64 ∧ Below N w W
/-- Behind the assignment: the write lies in a box of its own. -/
def ThereA (N p a B : Nat) (S : List UInt8) (n kb : Nat) (x : Nat × List UInt8) (a' : Act) (W : World) : Prop :=
  ∃ X, B < X ∧ X < W.heap.size ∧ W.rangeAt X 0 (wrV (fixW x)) ∧ a' = { tmps := #[.pointer (some ⟨p, 0, none⟩), .int .i64 (a : Int), undef, .pointer (some ⟨N, 0, none⟩), .pointer (some ⟨N + 1, 0, none⟩), .pointer (some ⟨N + 2, 0, none⟩), .pointer (some ⟨X, 0, none⟩),
    .pointer (some ⟨p, 0, none⟩), .pointer (some ⟨p, 0, none⟩), .pointer (some ⟨p, 0, none⟩), .slice (some ⟨kb, 0, none⟩) n n, .int .i64 (a : Int), .pointer (some ⟨kb, a * 64, none⟩), .agg (secV S).toArray, .pointer (some ⟨p, 0, none⟩), .func (.func 34) #[] #[.pointer (some ⟨B, 0, none⟩)], .agg (wrV (fixW x)).toArray, undef, undef, undef, undef, undef, undef, undef, undef], defers := [] }

set_option maxRecDepth 100000 in
set_option maxHeartbeats 2000000 in
theorem there_in (k : Nat) (hk : 3 ≤ k) {w : World} {F : Foot} {D : Dk} (h : On w F D) (a : Nat) (ha : a < D.n) :
    CallsIn Fence.wide k Try.prog 30 #[.pointer (some ⟨F.p, 0, none⟩), .int .i64 (a : Int)] w fun e w' => e = .returned (.agg (secV (D.there a)).toArray) ∧ Below w.heap.size w w' := by
  have hk1 : 1 ≤ k := by omega
  refine callsIn_of_wp_marks Try.func30 rfl trivial ?_ rfl
  simp only [Try.ntmps30, List.size_toArray, List.length_cons, List.length_nil, Nat.reduceAdd, Nat.reduceSub, Array.replicate_succ, Array.replicate_zero, List.push_toArray, List.append_toArray, List.nil_append, List.cons_append]
  have hH := Lib.hid h
  clear h
  gi_wp2
  obtain ⟨W1, hW1⟩ : ∃ W1, W1 = (w.alloc (.cells #[.int .i64 (a : Int)] 3)).alloc (.cells (secV zeros).toArray 61) := ⟨_, rfl⟩
  have hsz : W1.heap.size = w.heap.size + 2 := by rw [hW1]; simp
  have hB1 : Below w.heap.size w W1 := by rw [hW1]; exact ((Below.refl _ w).alloc (Nat.le_refl _) _).alloc (by simp) _
  have b3 : Boxed W1 w.heap.size 3 (.int .i64 (a : Int)) := by rw [hW1]; exact (Boxed.new w 3 (.int .i64 (a : Int))).alloc _
  have z4 : W1.there (w.heap.size + 1) 0 64 := by
    rw [hW1]
    have := there_new (w.alloc (.cells #[.int .i64 (a : Int)] 3)) (secV zeros) 61
    rw [World.size_alloc] at this
    exact this
  have hO1 : On W1 F D := hH.out.keep fun q hq => hB1.block q (hH.out.lt q hq)
  change Code.wpIn _ _ _ _ _ _ ((w.alloc (.cells #[.int .i64 (a : Int)] 3)).alloc (.cells (secV zeros).toArray 61))
  rw [← hW1]
  clear hW1
  have c0 := hO1.c0
  have n1 := hO1.ok.n1
  have n2 := hO1.ok.n2
  have hi0 : (0 : Int) ≤ (a : Int) := by omega
  have hi1 : (a : Int) < (D.n : Int) := by omega
  have hsec := (hO1.sec a ha).1
  have hu := Try.underlying61
  have hlen : (secV (D.kept a)).length = 64 := by rw [secV_len, hO1.ok.kept]
  have hi : (Try.prog.info? 61).map (·.size) = some (secV (D.kept a)).length := by rw [hlen]; kernel_rfl
  have hone := secV_one (D.kept a)
  have c3 := b3.cell
  have hO := Lib.hid hO1; clear hO1
  have hkb : F.kb < W1.heap.size := hO.out.klt
  refine wpIn_wide.2 ?_
  apply wp_scope_straight
  go_wp2
  have hst : (W1.alloc (.cells (secV zeros).toArray 61)).drew.there (w.heap.size + 2) 0 64 := by
    rw [← hsz]; exact there_new W1 (secV zeros) 61
  have hkb2 : w.heap.size + 2 ≠ F.kb := by omega
  have hkb4 : F.kb ≠ w.heap.size + 2 := by omega
  have hkp2 : F.p ≠ w.heap.size + 2 := by have := hO.out.plt; omega
  have hk3 : w.heap.size ≠ w.heap.size + 2 := by omega
  go_region_held3 (fun w' => w'.cell? ⟨F.p, 0, none⟩ = some (.slice (some ⟨F.kb, 0, none⟩) D.n D.n) ∧ w'.cell? ⟨w.heap.size, 0, none⟩ = some (.int .i64 (a : Int)) ∧ w'.rangeAt F.kb (a * 64) (secV (D.kept a)))
    (first | (go_split_ands; (repeat' constructor) <;> first | assumption | (refine cell_setCells_other (by assumption) _ _ _ (by assumption)) | (refine World.rangeAt_setCells_apart (by assumption) _ _ _ (.inl (by assumption))) | (apply World.rangeAt_alloc; assumption) | (refine cell_alloc_drew (by assumption) _)))
    (fail)
  obtain ⟨W2, hW2⟩ : ∃ W2, W2 = ((W1.alloc (.cells (secV zeros).toArray 61)).drew.setCells (w.heap.size + 2) 0 (secV (D.kept a))) := ⟨_, rfl⟩
  have hm2 : Moved (fun q => q = w.heap.size + 2) W1 W2 := by
    rw [hW2]
    exact ((Moved.alloc _ W1 _).trans (c := (W1.alloc (.cells (secV zeros).toArray 61)).drew) ⟨rfl, rfl, rfl, Nat.le_refl _, fun _ _ _ => rfl⟩ fun _ _ x => x).trans (moved_setCells (fun q => q = w.heap.size + 2) _ rfl _ _ _) fun _ _ x => x
  have hr5 : W2.rangeAt (w.heap.size + 2) 0 (secV (D.kept a)) := by
    rw [hW2]; exact World.rangeAt_setCells_same _ _ _ _ (by rw [hlen]; exact hst)
  have ht5 : W2.there (w.heap.size + 2) 0 64 := by rw [hW2]; exact World.there_setCells hst _ _ _
  have hB2 : Below w.heap.size w W2 := hB1.trans (hm2.below (fun q e => by omega) (by omega))
  have b32 : Boxed W2 w.heap.size 3 (.int .i64 (a : Int)) := (hm2.block _ b3.lt (by omega)).trans b3
  have z42 : W2.there (w.heap.size + 1) 0 64 := there_kept z4 (hm2.block _ (by omega) (by omega))
  have hO2 : On W2 F D := hO.out.moved hm2 (fun q hq e => by have := hH.out.lt q hq; omega)
  have hsz2 : w.heap.size + 2 < W2.heap.size := by
    have := Kit.lt_of_cell (Option.isSome_iff_exists.1 (ht5 0 (by omega)).1).choose_spec
    exact this
  change Exit.then _ _ _ _ ((W1.alloc (.cells (secV zeros).toArray 61)).drew.setCells (w.heap.size + 2) 0 (secV (D.kept a)))
  rw [← hW2]
  clear hW2 hm2 hst c0 hsec b3 z4 c3 hO hkb hB1 hkb2 hkb4 hkp2 hk3
  have HSZ := Lib.hid (And.intro hsz2 hsz); clear hsz hsz2
  go_wp2
  go_step3
  go_wp2_with (go_at_call 33; refine (backward_any F.p _).mono ?_; rintro e w' ⟨rfl, rfl⟩)
  refine (wpIn_wide (n := k)).1 ?_
  obtain ⟨W3, hW3⟩ : ∃ W3, W3 = W2.alloc (.cells #[.pointer (some ⟨F.p, 0, none⟩)] 25) := ⟨_, rfl⟩
  obtain ⟨B, hBB⟩ : ∃ B, B = W2.heap.size := ⟨_, rfl⟩
  have bB := Boxed.new W2 25 (.pointer (some ⟨F.p, 0, none⟩))
  have hb23 : Below W2.heap.size W2 W3 := by rw [hW3]; exact (Below.refl _ _).alloc (Nat.le_refl _) _
  have hz0 := HSZ.out
  have hO3 : On W3 F D := hO2.keep fun q hq => hb23.block q (hO2.lt q hq)
  have hS3 : W3.heap.size = B + 1 := by rw [hW3, hBB]; exact World.size_alloc _ _
  have r53 : W3.rangeAt (w.heap.size + 2) 0 (secV (D.kept a)) := rangeAt_kept hr5 (hb23.block _ (by omega))
  have t53 : W3.there (w.heap.size + 2) 0 64 := there_kept ht5 (hb23.block _ (by omega))
  have z43 : W3.there (w.heap.size + 1) 0 64 := there_kept z42 (hb23.block _ (by omega))
  have b33 : Boxed W3 w.heap.size 3 (.int .i64 (a : Int)) := (hb23.block _ (by omega)).trans b32
  have hB3 : Below w.heap.size w W3 := hB2.trans (hb23.mono (by omega))
  have hFB : ∀ q, F.has q → q < B := fun q hq => by rw [hBB]; exact hO2.lt q hq
  rw [← hW3, ← hBB] at bB
  rw [← hW3, ← hBB]
  have HSZ : Hid (w.heap.size + 3 ≤ B) := Lib.hid (by omega)
  clear hz0 hb23 hr5 ht5 z42 b32 hB2 hO2
  clear hW3 hBB
  refine wpIn_rangeFunc_ownH rfl hk1 (gf := 34) (lb := #[.pointer (some ⟨B, 0, none⟩)]) rfl trivial (enters_of Try.func34 (by kernel_rfl) rfl)
    (backward_stops (k - 1) (by omega) B F D _ bB.cell hO3) KeepS.trans (fun W l o o' hl hl2 _ _ q hq => ?hKb) (Below.refl _ _) (fun _ => rfl)
    (ThereI (B + 1) a W3) (ThereIx w.heap.size a w)
    ?hI ?hIx ⟨by simp, Below.refl _ _⟩
    (ThereA w.heap.size F.p a B (D.kept a) D.n F.kb)
    ?hAx ?assign ?body ?done ?stop
  case hKb =>
    have hql : q < B + 1 := by
      rcases hq with hq | rfl
      · have := hFB q hq; omega
      · omega
    rw [hS3] at hl
    exact (grownBy_putObj' W l o').block q (by have := (Array.getElem?_eq_some_iff.1 hl2).1; omega) (fun e => by have := Option.some.inj e; omega)
  case hI =>
    rintro pre A W row ⟨hn, hB⟩ hgr hr
    exact ⟨hn, Kit.below_turn hB (by rw [hS3]; omega) (by rw [hS3]; omega) hgr (fun r e => (hr r e).1)⟩
  case hIx =>
    rintro c pre A W row ⟨rfl, p, x, rfl, hxa, hn, h1, h2, hB⟩ hgr hr
    have hz := HSZ.out
    have hlt : ∀ q, q < w.heap.size + 3 → q < A.heap.size → W.heap[q]? = A.heap[q]? := fun q hq hl => hgr.block q hl (fun e => by have := (hr q e.symm).1; rw [hS3] at this; omega)
    have e1 : w.heap.size + 2 < A.heap.size := by
      have := h1 0 ((secV (fixW x).2)[0]'(by rw [secV_len, fixW_len]; omega)) (List.getElem?_eq_getElem _)
      exact Kit.lt_of_cell this
    exact ⟨rfl, p, x, rfl, hxa, hn, rangeAt_kept h1 (hlt _ (by omega) e1), there_kept h2 (hlt _ (by omega) (by omega)), Kit.below_turn hB (Nat.le_refl _) (by rw [hS3]; omega) hgr (fun r e => (hr r e).1)⟩
  case hAx =>
    rintro x a' u A W row ⟨X, hX, hXl, hrX, rfl⟩ hgr hr
    refine ⟨X, hX, Nat.lt_of_lt_of_le hXl hgr.size, rangeAt_kept hrX (hgr.block X hXl (fun e => ?_)), rfl⟩
    obtain ⟨_, o, ho, hc⟩ := hr X e.symm
    have := hrX 0 ((wrV (fixW x))[0]'(by rw [wrV_len]; omega)) (List.getElem?_eq_getElem _)
    unfold World.cell? at this
    simp only [ho] at this
    cases o <;> simp_all [Obj.isCells]
  case assign =>
    rintro l pre x W K ⟨hn, hB⟩ hK
    dsimp only [encW]
    have hsx : (wrV (fixW x)).toArray.size = 65 := by simp [wrV_len, fixW_len]
    have hth : (W.alloc (.cells (wrV (0, zeros)).toArray 63)).there W.heap.size 0 (wrV (fixW x)).toArray.size := by
      rw [hsx]; exact there_new W (wrV (0, zeros)) 63
    have hin : (Try.prog.info? 63).map (·.size) = some (wrV (fixW x)).toArray.size := by rw [hsx]; kernel_rfl
    have hzv := zeroWr
    clear hsx
    have HTH := Lib.hid hth; clear hth
    have HIN := Lib.hid hin; clear hin
    gi_wp2_with (refine Kit.wpListIn_store_mid rfl 63 _ _ rfl W.heap.size 0 (wrV (fixW x)).toArray rfl rfl HTH.out HIN.out (all_oneCell_toArray (wrV_one _)) ?_)
    have hz := HSZ.out
    have hsz := hB.size
    have hm : Moved (fun q => q = W.heap.size) W ((W.alloc (.cells (wrV (0, zeros)).toArray 63)).setCells W.heap.size 0 (wrV (fixW x))) :=
      (Moved.alloc _ W _).trans (moved_setCells (fun q => q = W.heap.size) _ rfl _ _ _) fun _ _ x => x
    have hrx : ((W.alloc (.cells (wrV (0, zeros)).toArray 63)).setCells W.heap.size 0 (wrV (fixW x))).rangeAt W.heap.size 0 (wrV (fixW x)) :=
      World.rangeAt_setCells_same _ _ _ _ (by have := HTH.out; rw [show (wrV (fixW x)).length = (wrV (fixW x)).toArray.size by simp]; exact this)
    refine hK _ _ (((KeepsOthers.alloc W _).trans (keepsOthers_setCells _ _ _ _)).from _) (fun q hq => hm.block q ?_ ?_) ⟨hn, hB.trans (hm.below (fun q (e : q = W.heap.size) => by omega) (by omega))⟩ ⟨W.heap.size, ?_, ?_, hrx, rfl⟩
    · rcases hq with hq | rfl
      · have := hFB q hq; omega
      · omega
    · rcases hq with hq | rfl
      · have := hFB q hq; omega
      · omega
    · omega
    · exact Kit.lt_of_cell (hrx 0 ((wrV (fixW x))[0]'(by rw [wrV_len]; omega)) (List.getElem?_eq_getElem _))
  case body =>
    rintro l pre x a' W hl ⟨r, hr⟩ ⟨hn, hB⟩ ⟨X, hX, hXl, hrX, rfl⟩ hlt
    have hz := HSZ.out
    have hsz := hB.size
    have q0 : W.cell? ⟨X, 0, none⟩ = some (.int .i64 (x.1 : Int)) := by rw [← fixW_at x]; exact hrX 0 _ rfl
    have q3 : W.cell? ⟨w.heap.size, 0, none⟩ = some (.int .i64 (a : Int)) := (hB.cell (p := ⟨w.heap.size, 0, none⟩) (by show w.heap.size < _; omega)).trans b33.cell
    by_cases hxa : x.1 = a
    · have hq : ((x.1 : Int) == (a : Int)) = true := by simp [hxa]
      have r1 : W.rangeAt X 1 (secV (fixW x).2) := fun j v hv => by
        have := hrX (j + 1) v (by simpa [wrV] using hv); rw [Nat.zero_add] at this; rw [Nat.add_comm]; exact this
      have t5 : W.there (w.heap.size + 2) 0 64 := there_kept t53 (hB.block _ (by omega))
      have hv64 : (secV (fixW x).2).length = 64 := by rw [secV_len, fixW_len]
      have hin : (Try.prog.info? 61).map (·.size) = some (secV (fixW x).2).length := by rw [hv64]; kernel_rfl
      have hts : W.there (w.heap.size + 2) 0 (secV (fixW x).2).toArray.size := by
        rw [show (secV (fixW x).2).toArray.size = 64 by simp [hv64]]; exact t5
      have hin2 : (Try.prog.info? 61).map (·.size) = some (secV (fixW x).2).toArray.size := by
        rw [show (secV (fixW x).2).toArray.size = 64 by simp [hv64]]; kernel_rfl
      have H1 := Lib.hid r1
      have H2 := Lib.hid hin
      have H3 := Lib.hid hts
      have H4 := Lib.hid hin2
      have HX := Lib.hid hxa
      have H6 := Lib.hid hv64
      clear r1 hin hts hin2 hxa hv64 hrX t5 hi hu hlen hone hi0 hi1
      gi_wp2_with (first
        | (refine Kit.wpListIn_load_mid rfl 61 _ rfl X 1 rfl (secV (fixW x).2) _ H1.out Try.underlying61 rfl H2.out ?_)
        | (refine Kit.wpListIn_store_mid rfl 61 _ _ rfl (w.heap.size + 2) 0 (secV (fixW x).2).toArray rfl rfl H3.out H4.out (all_oneCell_toArray (secV_one _)) ?_))
      have hm : Moved (fun q => q = w.heap.size + 2) W (W.setCells (w.heap.size + 2) 0 (secV (fixW x).2)) := moved_setCells (fun q => q = w.heap.size + 2) _ rfl _ _ _
      have hBw : Below w.heap.size w W := hB3.trans (hB.mono (by omega))
      refine ⟨(keepsOthers_setCells _ _ _ _).from _, rfl, pre, x, rfl, HX.out, hn, ?_, ?_, hBw.trans (hm.below (fun q (e : q = w.heap.size + 2) => by omega) (by omega))⟩
      · exact World.rangeAt_setCells_same _ _ _ _ (by have := H3.out; rw [show (secV (fixW x).2).toArray.size = (secV (fixW x).2).length by simp] at this; exact this)
      · exact World.there_setCells (there_kept z43 (hB.block _ (by omega))) _ _ _
    · have hq : ((x.1 : Int) == (a : Int)) = false := by simp; omega
      have HX := Lib.hid hxa
      clear hxa hrX hi hu hlen hone hi0 hi1
      gi_wp2
      refine ⟨KeepsFrom.refl _ _, fun _ _ => rfl, ?_, hB⟩
      intro y hy
      rcases List.mem_append.1 hy with hy | hy
      · exact hn y hy
      · rw [List.mem_singleton.1 hy]; exact HX.out
  case done =>
    rintro T ys W hT rfl ⟨hn, hB⟩ hK
    have hz := HSZ.out
    have hval : D.there a = D.kept a := there_none D a (fun x hx => hn x (List.mem_reverse.2 hx))
    have hBw : Below w.heap.size w W := hB3.trans (hB.mono (by omega))
    have HT := Lib.hid (And.intro hT (And.intro hval hBw)); clear hT hval hBw
    have L1 := Lib.hid (rangeAt_kept r53 (hB.block _ (by omega)))
    have hv64 : (secV (D.kept a)).toArray.size = 64 := by simp [hlen]
    have l2 : W.there (w.heap.size + 1) 0 (secV (D.kept a)).toArray.size := by rw [hv64]; exact there_kept z43 (hB.block _ (by omega))
    have l4 : (Try.prog.info? 61).map (·.size) = some (secV (D.kept a)).toArray.size := by rw [hv64]; kernel_rfl
    have L2 := Lib.hid l2
    have L3 := Lib.hid hi
    have L4 := Lib.hid l4
    have HV := Lib.hid hlen
    clear hi hu hlen hone hi0 hi1 l2 l4 hv64
    go_wp2_with (first
        | (refine wpList_load_mid rfl 61 _ rfl (w.heap.size + 2) 0 rfl (secV (D.kept a)) _ L1.out Try.underlying61 rfl L3.out ?_)
        | (refine wpList_store_mid rfl 61 _ _ rfl (w.heap.size + 1) 0 (secV (D.kept a)).toArray rfl rfl L2.out L4.out (all_oneCell_toArray (secV_one _)) ?_))
    rw [Exit.noGoto_ret]
    have hK2 : (W.setCells (w.heap.size + 1) 0 (secV (D.kept a))).heap[T]? = some (.deferred (some [])) := (keepsOthers_setCells (w.heap.size + 1) (secV (D.kept a)) 0 W).same T _ hK rfl
    refine ⟨by simp, .inl ⟨_, _, rfl, run_takeDeferred hK2, ?_⟩⟩
    have hrr : (W.setCells (w.heap.size + 1) 0 (secV (D.kept a))).rangeAt (w.heap.size + 1) 0 (secV (D.kept a)) :=
      World.rangeAt_setCells_same _ _ _ _ (by have := L2.out; rw [show (secV (D.kept a)).toArray.size = (secV (D.kept a)).length by simp] at this; exact this)
    have hm : Moved (fun q => q = w.heap.size + 1) W (W.setCells (w.heap.size + 1) 0 (secV (D.kept a))) := moved_setCells (fun q => q = w.heap.size + 1) _ rfl _ _ _
    have hrr2 := rangeAt_kept hrr (w' := (W.setCells (w.heap.size + 1) 0 (secV (D.kept a))).putObj T (.deferred none)) ((grownBy_putObj' _ T (.deferred none)).block _ (by have := Kit.lt_of_cell (hrr 0 _ (List.getElem?_eq_getElem (l := secV (D.kept a)) (by have := HV.out; omega))); exact this) (fun e => by have := Option.some.inj e; have := HT.out.1; omega))
    have hld := run_loadVar_mid (P := Try.prog) _ (w.heap.size + 1) 0 61 (secV (D.kept a)) _ hrr2 Try.underlying61 rfl L3.out
    refine ⟨.agg (secV (D.kept a)).toArray, results_there rfl _ _ _ hld, ?_⟩
    rw [HT.out.2.1]
    have hb := hm.below (B := w.heap.size) (fun q (e : q = w.heap.size + 1) => by omega) (by have := HT.out.2.2.size; omega)
    exact ⟨rfl, (HT.out.2.2.trans hb).trans (belowK_b (w := w) (Nat.le_refl _) _ T _ _ (by have := HT.out.1; omega) hK2 rfl rfl)⟩
  case stop =>
    rintro T c pre W hT hSp ⟨rfl, p, x, rfl, hxa, hn, h1, h2, hBw⟩ hK
    have hz := HSZ.out
    have hx64 : x.2.length = 64 := by
      have := hSp.subset (List.mem_append_right p (List.mem_singleton.2 rfl))
      exact (hO3.ok.pend x (List.mem_reverse.1 this)).2
    have hval : D.there a = x.2 := there_first D a p x hSp hxa hn
    rw [fixW_eq hx64] at h1
    have hlx : (secV x.2).length = 64 := by rw [secV_len, hx64]
    have HT := Lib.hid (And.intro hT (And.intro hval hBw)); clear hT hval hBw hSp hn hxa hx64
    have L1 := Lib.hid h1
    have hv64 : (secV x.2).toArray.size = 64 := by simp [hlx]
    have l2 : W.there (w.heap.size + 1) 0 (secV x.2).toArray.size := by rw [hv64]; exact h2
    have l4 : (Try.prog.info? 61).map (·.size) = some (secV x.2).toArray.size := by rw [hv64]; kernel_rfl
    have l3 : (Try.prog.info? 61).map (·.size) = some (secV x.2).length := by rw [hlx]; kernel_rfl
    have L2 := Lib.hid l2
    have L3 := Lib.hid l3
    have L4 := Lib.hid l4
    have HV := Lib.hid hlx
    clear hi hu hlen hone hi0 hi1 l2 l3 l4 hv64 h1 h2 hlx
    gi_wp2
    go_wp2_with (first
        | (refine wpList_load_mid rfl 61 _ rfl (w.heap.size + 2) 0 rfl (secV x.2) _ L1.out Try.underlying61 rfl L3.out ?_)
        | (refine wpList_store_mid rfl 61 _ _ rfl (w.heap.size + 1) 0 (secV x.2).toArray rfl rfl L2.out L4.out (all_oneCell_toArray (secV_one _)) ?_))
    rw [Exit.noGoto_ret]
    have hK2 : (W.setCells (w.heap.size + 1) 0 (secV x.2)).heap[T]? = some (.deferred (some [])) := (keepsOthers_setCells (w.heap.size + 1) (secV x.2) 0 W).same T _ hK rfl
    refine ⟨by simp, .inl ⟨_, _, rfl, run_takeDeferred hK2, ?_⟩⟩
    have hrr : (W.setCells (w.heap.size + 1) 0 (secV x.2)).rangeAt (w.heap.size + 1) 0 (secV x.2) :=
      World.rangeAt_setCells_same _ _ _ _ (by have := L2.out; rw [show (secV x.2).toArray.size = (secV x.2).length by simp] at this; exact this)
    have hm : Moved (fun q => q = w.heap.size + 1) W (W.setCells (w.heap.size + 1) 0 (secV x.2)) := moved_setCells (fun q => q = w.heap.size + 1) _ rfl _ _ _
    have hrr2 := rangeAt_kept hrr (w' := (W.setCells (w.heap.size + 1) 0 (secV x.2)).putObj T (.deferred none)) ((grownBy_putObj' _ T (.deferred none)).block _ (by have := Kit.lt_of_cell (hrr 0 _ (List.getElem?_eq_getElem (l := secV x.2) (by have := HV.out; omega))); exact this) (fun e => by have := Option.some.inj e; have := HT.out.1; omega))
    have hld := run_loadVar_mid (P := Try.prog) _ (w.heap.size + 1) 0 61 (secV x.2) _ hrr2 Try.underlying61 rfl L3.out
    refine ⟨.agg (secV x.2).toArray, results_there rfl _ _ _ hld, ?_⟩
    rw [HT.out.2.1]
    have hb := hm.below (B := w.heap.size) (fun q (e : q = w.heap.size + 1) => by omega) (by have := HT.out.2.2.size; omega)
    exact ⟨rfl, (HT.out.2.2.trans hb).trans (belowK_b (w := w) (Nat.le_refl _) _ T _ _ (by have := HT.out.1; omega) hK2 rfl rfl)⟩

/-- there: what is there of a sector. -/
theorem there_any {w : World} {F : Foot} {D : Dk} (h : On w F D) (a : Nat) (ha : a < D.n) :
    Calls Try.prog 30 #[.pointer (some ⟨F.p, 0, none⟩), .int .i64 (a : Int)] w fun e w' => e = .returned (.agg (secV (D.there a)).toArray) ∧ Below w.heap.size w w' :=
  (callsIn_wide (n := 3)).1 (there_in 3 (by decide) h a ha)
end Go.Proofs.Ythmpdnndfgmmfaa.Disk
