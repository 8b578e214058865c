/- Layer 2's law DiskSum: the walk. -/
import Derived.Test.YthmpdnndfgmmfaaLawRots
import Derived.Test.YthmpdnndfgmmfaaWireSum
namespace Go.Proofs.Ythmpdnndfgmmfaa.Disk
open Go.RowKit

attribute [local go_sem] Oper.semAt_some

theorem foldl_other (k : Nat) : ∀ (l : List (Nat × List UInt8)) (K : Nat → List UInt8), (∀ x ∈ l, x.1 ≠ k) → l.foldl layK K k = K k := by
  intro l K h
  rcases foldl_mem k l K with e | ⟨x, hx, h1, _⟩
  · exact e
  · exact absurd h1 (h x hx)
/-- The calls that write another sector. -/
def others (k : Nat) (l : List CallD) : List CallD := l.filter fun c => pickN c.a 6 != k
theorem others_next (k : Nat) {l : List CallD} {i : Nat} {c : CallD} (h : l[i]? = some c) : others k (l.take (i + 1)) = others k (l.take i) ++ (if pickN c.a 6 != k then [c] else []) := by
  unfold others
  rw [take_snoc h, List.filter_append]
  congr 1
  simp only [List.filter_cons, List.filter_nil]
theorem turn_sum (s : List UInt8) (p : Nat) (hp : p < s.length) (m : UInt8) (hm : m ≠ 0) : Wire.sumN (turnS s p m) ≠ Wire.sumN s := by
  have h1 : s = s.take p ++ s[p] :: s.drop (p + 1) := by
    rw [← List.drop_eq_getElem_cons hp, List.take_append_drop]
  have h2 : turnS s p m = s.take p ++ (s[p] ^^^ m) :: s.drop (p + 1) := by
    unfold turnS
    rw [List.set_eq_take_append_cons_drop, if_pos hp]
    simp [List.getD, List.getElem?_eq_getElem hp]
  intro h
  have h3 : Wire.sumN (s.take p ++ (s[p] ^^^ m) :: s.drop (p + 1)) = Wire.sumN (s.take p ++ s[p] :: s.drop (p + 1)) := by rw [← h1, ← h2]; exact h
  have h4 := (Wire.sumN_apart _ _ _ _).1 h3
  apply hm
  have : s[p] ^^^ (s[p] ^^^ m) = s[p] ^^^ s[p] := by rw [h4]
  rw [← UInt8.xor_assoc, UInt8.xor_self, UInt8.zero_xor] at this
  exact this
theorem sum_of (l : List UInt8) (h : l.length = 64) (w : World) : Calls Try.prog 25 #[.string (strB l)] w fun e w' => e = .returned (.int .i64 (Wire.sumN l : Int)) ∧ Below w.heap.size w w' := by
  have h1 := Wire.sum_any (strB l) (by rw [strB_size, h]; decide) w
  rw [show (strB l).data.toList = l by simp [strB]] at h1
  exact h1
theorem St.sum {w0 w : World} {L : List (Nat × Dk)} (h : St w0 w L) (l : List UInt8) (hl : l.length = 64) : Calls Try.prog 25 #[.string (strB l)] w fun e w' => e = .returned (.int .i64 (Wire.sumN l : Int)) ∧ St w0 w' L :=
  (sum_of l hl w).mono fun _ _ ⟨h1, h2⟩ => ⟨h1, h.grow h2⟩
theorem call_len (c : CallD) : c.cells.length = 6 := rfl
theorem calls_own {w : World} {base : Nat} {v : Value} {l : List CallD} (h : w.ownsRow base 35 6 v l.length (l.flatMap CallD.cells)) : CallsAt w v l := by
  rcases h.2 with ⟨h1, h2⟩ | ⟨g, cap, cur, h1, _, hg, hc, _, hs, ht⟩
  · have : l = [] := List.length_eq_zero_iff.1 h2
    subst this
    exact .inl ⟨_, _, h1, rfl⟩
  · refine .inr ⟨g, 0, cap, h1, (Array.getElem?_eq_some_iff.1 hg).1, hc, fun i c hi j u hu => ?_⟩
    have hj : j < 6 := by have := (List.getElem?_eq_some_iff.1 hu).1; rw [call_len] at this; exact this
    have hil : i < l.length := (List.getElem?_eq_some_iff.1 hi).1
    rw [Nat.zero_add, cell_of_row w g (i * 6 + j) _ _ _ hg, ← hu, ← flatMap_at CallD.cells 6 l (fun c _ => call_len c) i j c hi hj, ← ht, List.getElem?_take, if_pos (by omega), Array.getElem?_toList]
/-- A slice literal of one call. -/
theorem wpList_call_one {P : Program} {ops : Array Oper} {rest : List Oper} {o : Oper} {a : Act} {w : World} {Q : Exit → Act → World → Prop} (hg : o.guard = none) (t e : TypeId) (x : Operand) (ho : o.op = .buildSlice t 1 #[(0, x)]) (cs : List Value) (hx : a.eval x = .agg cs.toArray) (ie : TypeInfo) (z : Value)
    (hu : P.underlying t = some (.slice e)) (hie : P.info? e = some ie) (hz : ie.zero = some z) (hsz : ie.size = cs.length) (hsmall : cs.length ≤ 2 ^ 24) (hpos : 0 < cs.length)
    (h : wpList P ops Q rest (a.put o.dst (.slice (some ⟨w.heap.size, 0, none⟩) 1 1)) (w.alloc (.cells cs.toArray e))) : wpList P ops Q (o :: rest) a w := by
  refine wpList_buildSlice hg t e 1 #[(0, x)] ho cs.toArray ie z hu hie hz (by rw [hsz]; omega) (by rw [hsz]; omega) ?_ h
  rw [hsz]
  simp only [List.map_toArray, List.map_cons, List.map_nil, hx]
  exact Kit.fill_one cs.length _ cs (by simp) rfl

set_option maxRecDepth 100000 in
set_option maxHeartbeats 16000000 in
theorem sumlaw_any (sv : Value) (ss : List CallD) (x : Int) (x1 : -9223372036854775808 ≤ x) (x2 : x ≤ 9223372036854775807) (kv : Value) (ks : List Int) (xp : Int) (p1 : -9223372036854775808 ≤ xp) (p2 : xp ≤ 9223372036854775807) (xm : Int) (m1 : -9223372036854775808 ≤ xm) (m2 : xm ≤ 9223372036854775807) (w : World)
    (hs : CallsAt w sv ss) (hso : ∀ c ∈ ss, c.Ok) (hsl : ss.length ≤ 9223372036854775807) (hk : IntsAt w kv ks) (hko : ∀ x ∈ ks, -9223372036854775808 ≤ x ∧ x ≤ 9223372036854775807) (hkl : ks.length ≤ 9223372036854775807) :
    Calls Try.prog 9 #[sv, .int .i64 x, kv, .int .i64 xp, .int .i64 xm] w fun e w' => e = .returned (.bool true) ∧ Below w.heap.size w w' := by
  obtain ⟨so, scap, rfl⟩ := hs.val
  have HS := Lib.hid (Had.mk hs hso hsl)
  have HK := Lib.hid (And.intro hk hko)
  clear hs hso hk hko
  obtain ⟨k, hkk⟩ : ∃ k, k = pickN x 6 := ⟨_, rfl⟩
  obtain ⟨pl, hpl⟩ : ∃ pl, pl = pickN xp 64 := ⟨_, rfl⟩
  obtain ⟨mk, hmk⟩ : ∃ mk, mk = pickN xm 255 := ⟨_, rfl⟩
  have hk6 : k < 6 := by rw [hkk]; exact pickN_lt x (by decide)
  have hp64 : pl < 64 := by rw [hpl]; exact pickN_lt xp (by decide)
  have hm255 : mk < 255 := by rw [hmk]; exact pickN_lt xm (by decide)
  have w1m : IntKind.i64.wrap (1 + (mk : Int)) = 1 + (mk : Int) := by rw [IntKind.wrap_i64]; omega
  have hinfo : (Try.prog.info? 35).map (fun i => (i.zero, i.size, i.bytes)) = some ((Try.prog.info? 35).bind (·.zero), 6, 72) := by kernel_rfl
  obtain ⟨i0, hi0, hz0, hz1, hz2⟩ : ∃ i, Try.prog.info? 35 = some i ∧ (∃ z, i.zero = some z ∧ z.cells.size = 6) ∧ i.size = 6 ∧ i.bytes = 72 := by
    obtain ⟨i, hi, hzz⟩ := Option.map_eq_some_iff.1 hinfo
    simp only [Prod.mk.injEq] at hzz
    have hz : ((Try.prog.info? 35).bind (·.zero)).map (fun z => z.cells.size) = some 6 := by kernel_rfl
    obtain ⟨z, h1, h2⟩ := Option.map_eq_some_iff.1 hz
    exact ⟨i, hi, ⟨z, hzz.1.trans h1, h2⟩, hzz.2.1, hzz.2.2⟩
  obtain ⟨z0, hz0, hzs⟩ := hz0
  have HN := Lib.hid (And.intro hkk (And.intro hpl hmk))
  clear hkk hpl hmk hinfo
  go_enter Try.func9, Try.ntmps9
  go_wp2_with fail
  refine (St.awake w).mono ?_
  rintro e w1 ⟨rfl, hT⟩
  have T1 := Lib.hid hT; clear hT
  go_wp2_with fail
  refine (pick_any x x1 x2 6 (by decide) (by decide) _).mono ?_
  rw [← HN.out.1]
  rintro e _ ⟨rfl, rfl⟩
  go_wp2
  go_loopw [13, 14] (fun v i wr => ∃ j : Nat, i = .int .i64 j ∧ j ≤ 8 ∧ j ≤ ss.length ∧ wr.ownsRow w1.heap.size 35 6 v (others k (ss.take j)).length ((others k (ss.take j)).flatMap CallD.cells) ∧ Below w1.heap.size w1 wr) (fun _ i _ => 8 - (intOf i).toNat)
  case atStart => exact ⟨0, rfl, by omega, by omega, World.ownsRow_nil _ _ _ _, Below.refl _ _⟩
  case round =>
    obtain ⟨i, rfl, hi, hi2, hown, hB⟩ := hrel
    by_cases hin : i < ss.length ∧ i < 8
    · obtain ⟨h1, h2⟩ := hin
      obtain ⟨c, hc⟩ : ∃ c, ss[i]? = some c := ⟨_, List.getElem?_eq_getElem h1⟩
      have hnext := others_next k hc
      have hol : (others k (ss.take i)).length ≤ 8 := Nat.le_trans (List.length_filter_le _ _) (by rw [List.length_take]; omega)
      have hb0 := T1.out.2.trans (hB.mono T1.out.2.size)
      have hsz := hB.size
      obtain ⟨b, off, cap', hsv, hbl, hcap, hcells⟩ : ∃ b off cap', (Value.slice so ss.length scap) = .slice (some ⟨b, off, none⟩) ss.length cap' ∧ b < w.heap.size ∧ ss.length ≤ cap' ∧ w.rangeAt b (off + i * 6) c.cells := by
        rcases HS.out.lies with ⟨_, _, _, h⟩ | ⟨b, off, cap', h3, h4, h5, h6⟩
        · rw [h] at h1; simp at h1
        · exact ⟨b, off, cap', h3, h4, h5, h6 i c hc⟩
      obtain ⟨rfl, rfl⟩ : so = some ⟨b, off, none⟩ ∧ scap = cap' := by cases hsv; exact ⟨rfl, rfl⟩
      have hok := HS.out.ok c (List.mem_of_getElem? hc)
      have hr := rangeAt_kept hcells (hb0.block b hbl)
      have c1 : wr.cell? ⟨b, off + i * 6 + 1, none⟩ = some (.int .i64 c.a) := hr 1 _ rfl
      have a1 := hok.a1
      have a2 := hok.a2
      have i1 : (0 : Int) ≤ (i : Int) := by omega
      have i2 : (i : Int) < (ss.length : Int) := by omega
      by_cases hpk : pickN c.a 6 = k
      · have hpk2 : ((pickN c.a 6 : Int) != (k : Int)) = false := by rw [bne_eq_false_iff_eq]; omega
        have hn2 : others k (ss.take (i + 1)) = others k (ss.take i) := by rw [hnext, hpk]; simp
        have HO := Lib.hid (And.intro hn2 (And.intro hown hB))
        clear hn2 hnext hown hB hc hsv hcells hr hpk
        go_wp2_with (go_at_call 17; refine (pick_any c.a a1 a2 6 (by decide) (by decide) _).mono ?_; rintro e w2 ⟨rfl, rfl⟩)
        go_roundw
        case rel => exact ⟨i + 1, by go_num, by omega, by omega, by rw [HO.out.1]; exact HO.out.2.1, HO.out.2.2⟩
        case measure => simp [intOf]; omega
      · have hpk2 : ((pickN c.a 6 : Int) != (k : Int)) = true := by rw [bne_iff_ne]; omega
        have hn2 : others k (ss.take (i + 1)) = others k (ss.take i) ++ [c] := by rw [hnext, if_pos (by simp [hpk])]
        have HO := Lib.hid (And.intro hn2 (And.intro hown (And.intro hB hr)))
        have hinf : (Try.prog.info? 35).map (·.size) = some c.cells.length := by rw [call_len]; kernel_rfl
        have HI := Lib.hid hinf
        have HOK := Lib.hid hok
        clear hn2 hnext hown hB hc hsv hcells hr hpk hinf hok
        go_wp2_with (first
          | (go_at_call 17; refine (pick_any c.a a1 a2 6 (by decide) (by decide) _).mono ?_; rintro e w2 ⟨rfl, rfl⟩)
          | (refine wpList_load_mid rfl 35 _ rfl b (off + i * 6) rfl c.cells _ HO.out.2.2.2 Try.underlying35 rfl HI.out ?_)
          | (refine wpList_call_one rfl 22 35 _ rfl c.cells rfl i0 z0 Try.underlying22 hi0 hz0 hz1 (by rw [call_len]; decide) (by rw [call_len]; decide) ?_)
          | (at_builtin; refine wpList_append_own _ rfl _ _ 22 rfl w1.heap.size 35 i0 z0 6 72 Try.underlying22 hi0 hz0 hz1 hz2 hzs (by decide) _ _ _ rfl (HO.out.2.1.alloc (.cells c.cells.toArray 35)) ⟨wr.heap.size, 0, none⟩ 1 1 c.cells rfl rfl (fun j u hu => by rw [Addr.add_mid]; exact Kit.cell_new wr _ _ (0 + j) (by simpa using hu)) HOK.out.one (by unfold maxLen; omega) (by omega) (by simp; omega) ?_; intro v' w7 hown' hgrow _))
        go_roundw
        case rel =>
          have hl := (HO.out.2.1.alloc (.cells c.cells.toArray 35)).lt
          refine ⟨i + 1, by go_num, by omega, by omega, ?_, (HO.out.2.2.1.alloc hsz (.cells c.cells.toArray 35)).grown hgrow (by simp; omega) (fun j e => (hl j e).1)⟩
          rw [HO.out.1, List.length_append, List.flatMap_append, List.flatMap_singleton]
          exact hown'
        case measure => simp [intOf]; omega
    · have hoc : others k (ss.take i) = others k (ss.take 8) := by
        rcases Nat.lt_or_ge i ss.length with h1 | h1
        · rw [show i = 8 by omega]
        · rw [List.take_of_length_le h1, List.take_of_length_le (by omega)]
      obtain ⟨oc, hoc2⟩ : ∃ oc, oc = others k (ss.take 8) := ⟨_, rfl⟩
      rw [hoc, ← hoc2] at hown
      have hol : oc.length ≤ 8 := by rw [hoc2]; exact Nat.le_trans (List.length_filter_le _ _) (by rw [List.length_take]; omega)
      have hok : ∀ c ∈ oc, c.Ok ∧ pickN c.a 6 ≠ k := fun c hc => by
        rw [hoc2] at hc
        have := List.mem_filter.1 hc
        exact ⟨HS.out.ok c (List.mem_of_mem_take this.1), by simpa using this.2⟩
      have hca := calls_own hown
      obtain ⟨vo, vc, rfl⟩ := hca.val
      have hlt := hown.lt
      obtain ⟨D, hD⟩ : ∃ D, D = filledD ss oc := ⟨_, rfl⟩
      have hDo : D.Ok := by rw [hD]; exact filled_ok ss oc
      have hDn : D.n = 6 := by rw [hD]; rfl
      have hm8 : D.pend.length ≤ 8 := by rw [hD]; exact filledD_pend ss oc
      obtain ⟨m, hm⟩ : ∃ m, m = D.pend.length := ⟨_, rfl⟩
      rw [← hm] at hm8
      have hoth : ∀ y ∈ D.pend, y.1 ≠ k := fun y hy => by
        rw [hD] at hy
        obtain ⟨c, hc, rfl⟩ := List.mem_map.1 (show y ∈ (oc.take 8).map wrOf from hy)
        exact (hok c (List.mem_of_mem_take hc)).2
      obtain ⟨kk, hkk⟩ : ∃ kk, kk = keepN ks m := ⟨_, rfl⟩
      have hkn := keepN_lt ks m
      have hkl2 := keepN_len ks m
      have hkok := okKeep_keepN ks m
      have hin2 := intsOf_in ks m
      rw [← hkk] at hkn hkl2 hkok hin2
      obtain ⟨t, ht⟩ : ∃ t, t = D.kept k := ⟨_, rfl⟩
      have htl : t.length = 64 := by rw [ht]; exact hDo.kept k
      obtain ⟨D2, hD2⟩ : ∃ X, X = D.crash (intsOf kk) := ⟨_, rfl⟩
      have r1 : D.read (k : Int) = (strB t, 0) := read_good D k (by omega) (by rw [ht]; exact foldl_other k D.pend D.kept hoth)
      have e1 : D.crashE (intsOf kk) = (D2, 0) := by rw [hD2]; exact crashE_good D _ m hm.symm hkok
      have h2k : D2.kept k = t := by
        rw [hD2, ht]
        exact foldl_other k (D.picked (intsOf kk)) D.kept fun y hy => hoth y (picked_mem (by rw [← hm]; exact hin2) y hy)
      have h2p : D2.pend = [] := by rw [hD2]; rfl
      have h2n : D2.n = 6 := by rw [hD2]; exact hDn
      have r2 : D2.read (k : Int) = (strB t, 0) := read_good D2 k (by omega) (by rw [there_nil D2 h2p]; exact h2k)
      obtain ⟨bb, hbb⟩ : ∃ bb, bb = UInt8.ofNat (1 + mk) := ⟨_, rfl⟩
      have e2 : D2.rotR (k : Int) (pl : Int) (1 + (mk : Int)) = (D2.rot k pl bb, 0) := by
        have := rotR_good D2 k pl (1 + mk) (by omega) hp64 (by omega)
        rw [hbb]
        rw [show ((1 + mk : Nat) : Int) = 1 + (mk : Int) by push_cast; rfl] at this
        exact this
      have r3 : (D2.rot k pl bb).read (k : Int) = (strB (turnS t pl bb), 0) := read_good _ k (by show k < D2.n; omega) (by
        rw [rot_there D2 h2p, if_pos rfl, there_nil D2 h2p, h2k])
      have hb0 : bb ≠ 0 := by
        intro h
        have h1 : bb.toNat = 1 + mk := by rw [hbb, UInt8.toNat_ofNat']; omega
        rw [h] at h1
        simp at h1
        omega
      have hne := turn_sum t pl (by omega) bb hb0
      have hnei : ((Wire.sumN (turnS t pl bb) : Int) != (Wire.sumN t : Int)) = true := by rw [bne_iff_ne]; omega
      have hul : (turnS t pl bb).length = 64 := by rw [turnS_len]; exact htl
      obtain ⟨A, hA⟩ : ∃ A : Nat → Prop, A = fun j => j < w.heap.size ∨ (w1.heap.size ≤ j ∧ j < wr.heap.size) := ⟨_, rfl⟩
      have hW : Held wr A [] := by rw [hA]; exact T1.out.1.widen hB
      have hAo : ∀ j, j < w.heap.size → A j := fun j hj => by rw [hA]; exact .inl hj
      have hAn : ∀ b, (Value.slice vo oc.length vc).ownBlock = some b → A b := fun b hb => by rw [hA]; exact .inr (hlt b hb)
      have hBw := T1.out.2.trans (hB.mono T1.out.2.size)
      have E := Lib.hid (And.intro r1 (And.intro e1 (And.intro r2 (And.intro e2 (And.intro r3 (And.intro htl (And.intro hul (And.intro hm (And.intro hkk (And.intro hkn (And.intro hkl2 hD)))))))))))
      have H := Lib.hid (And.intro hW (And.intro hAo (And.intro hAn (And.intro hBw (And.intro hca hok)))))
      clear r1 e1 r2 e2 r3 htl hul hm hkk hkn hkl2 hD hW hAo hAn hBw hca hok hoc hoc2 hown hlt hDo hDn hoth hkok hin2 ht hD2 h2k h2p h2n hbb hb0 hne hA hB
      rcases (show (¬ i < ss.length) ∨ (i < ss.length ∧ ¬ i < 8) by omega) with h | ⟨h, h'⟩
      all_goals clear hin
      all_goals go_upto_region 9 with fail
      all_goals go_wp2_with fail
      all_goals
        refine (filled_held H.out.1 _ _ ss oc (HS.out.lies.below H.out.2.2.2.1) H.out.2.2.2.2.1 HS.out.ok (fun c hc => (H.out.2.2.2.2.2 c hc).1) (fun hn b hb => H.out.2.1 b (HS.out.lies.own hn b hb)) (fun _ => H.out.2.2.1) hsl (by omega)).mono ?_
        rintro e w2 ⟨p, rfl, _, hT⟩
        have hTm := hT.mono H.out.2.1
        have T2 := Lib.hid (show St w w2 [(p, D)] from E.out.2.2.2.2.2.2.2.2.2.2.2 ▸ ⟨hTm.1, H.out.2.2.2.1.trans (hTm.2.below (fun j hj => by omega) H.out.2.2.2.1.size)⟩)
        clear hT hTm
      all_goals go_wp2_with fail
      all_goals
        refine (T2.out.read 0 rfl (by omega) E.out.1).mono ?_
        rintro e w3 ⟨rfl, hT⟩
        have T3 := Lib.hid hT; clear hT T2
      all_goals go_wp2_with fail
      all_goals
        refine (T3.out.pending 0 rfl).mono ?_
        rw [← E.out.2.2.2.2.2.2.2.1]
        rintro e _ ⟨rfl, rfl⟩
      all_goals go_wp2_with fail
      all_goals
        refine (T3.out.keep HK.out.1 HK.out.2 hkl m (by omega)).mono ?_
        rw [← E.out.2.2.2.2.2.2.2.2.1]
        rintro e w5 ⟨v', rfl, hI, hIb, hB5⟩
        have HI := Lib.hid (And.intro hI (And.intro hIb hB5))
        clear hI hIb hB5
      all_goals go_wp2_with fail
      all_goals
        refine (T3.out.crash 0 rfl (intsOf kk) (by rw [intsOf_len]; have := E.out.2.2.2.2.2.2.2.2.2.2.1; omega) (intsOf_bounds kk fun j hj => by have := E.out.2.2.2.2.2.2.2.2.2.1 j hj; omega) HI.out.2.2 HI.out.1 HI.out.2.1 E.out.2.1 (L' := [(p, D2)]) rfl).mono ?_
        rintro e w6 ⟨rfl, hT⟩
        have T6 := Lib.hid hT; clear hT T3 HI
      all_goals go_wp2_with fail
      all_goals
        refine (T6.out.read 0 rfl (by omega) E.out.2.2.1).mono ?_
        rintro e w7 ⟨rfl, hT⟩
        have T7 := Lib.hid hT; clear hT T6
      all_goals go_wp2_with fail
      all_goals
        refine (pick_any xm m1 m2 255 (by decide) (by decide) _).mono ?_
        rw [← HN.out.2.2]
        rintro e _ ⟨rfl, rfl⟩
      all_goals go_wp2_with fail
      all_goals
        refine (pick_any xp p1 p2 64 (by decide) (by decide) _).mono ?_
        rw [← HN.out.2.1]
        rintro e _ ⟨rfl, rfl⟩
      all_goals go_wp2_with fail
      all_goals
        refine (T7.out.rot 0 rfl (by omega) E.out.2.2.2.1 (L' := [(p, D2.rot k pl bb)]) rfl).mono ?_
        rintro e w8 ⟨rfl, hT⟩
        have T8 := Lib.hid hT; clear hT T7
      all_goals go_wp2_with fail
      all_goals
        refine (T8.out.read 0 rfl (by omega) E.out.2.2.2.2.1).mono ?_
        rintro e w9 ⟨rfl, hT⟩
        have T9 := Lib.hid hT; clear hT T8
      all_goals go_wp2_with fail
      all_goals
        refine (T9.out.sum t E.out.2.2.2.2.2.1).mono ?_
        rintro e w10 ⟨rfl, hT⟩
        have T10 := Lib.hid hT; clear hT T9
      all_goals go_wp2_with fail
      all_goals
        refine (T10.out.sum t E.out.2.2.2.2.2.1).mono ?_
        rintro e w11 ⟨rfl, hT⟩
        have T11 := Lib.hid hT; clear hT T10
      all_goals go_wp2_with fail
      all_goals
        refine (T11.out.sum _ E.out.2.2.2.2.2.2.1).mono ?_
        rintro e w12 ⟨rfl, hT⟩
        have T12 := Lib.hid hT; clear hT T11
      all_goals go_wp2_with fail
      all_goals
        refine (T12.out.sum t E.out.2.2.2.2.2.1).mono ?_
        rintro e w13 ⟨rfl, hT⟩
        have T13 := Lib.hid hT; clear hT T12
      all_goals go_wp2
      all_goals go_ret
      all_goals exact ⟨rfl, T13.out.2⟩
end Go.Proofs.Ythmpdnndfgmmfaa.Disk
