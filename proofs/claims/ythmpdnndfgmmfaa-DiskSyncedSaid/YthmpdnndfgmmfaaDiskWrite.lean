/- Layer 2: the walk of Write. -/
import Derived.Test.YthmpdnndfgmmfaaDiskCrash
import Derived.Lib.LazyBuf
import Derived.Test.YthmpdnndfgmmfaaKit5
namespace Go.Proofs.Ythmpdnndfgmmfaa.Disk
open Go.RowKit
attribute [local go_sem] Oper.semAt_some

theorem wpList_copy_str {P : Program} {ops : Array Oper} {rest : List Oper} {o : Oper} {a : Act} {w : World} {Q : Exit → Act → World → Prop}
    (hg : o.guard = none) (d x : Operand) (dT sT : TypeId) (hop : o.op = Op.call { callee := Callee.builtin Builtin.copy, args := #[d, x], argTypes := #[dT, sT] })
    (elem : TypeId) (hu : P.underlying dT = some (.slice elem)) (hz : ∀ w, (Go.sizeOf elem).run P w = .ok 1 w)
    (b off dLen dCap : Nat) (hd : a.eval d = .slice (some ⟨b, off, none⟩) dLen dCap) (t : ByteArray) (hx : a.eval x = .string t) (hle : t.size ≤ dLen)
    (hc : w.there b off t.size)
    (hK : wpList P ops Q rest (a.put o.dst (goInt t.size)) (w.setCells b off (secV t.data.toList))) : wpList P ops Q (o :: rest) a w := by
  refine wpList_plain hg fun K hK' => ?_
  have hrun := run_copy_string (P := P) w dT sT o.type elem b off dLen dCap t hu hz hle (fun j hj => (hc j hj).1) (fun j hj => (hc j hj).2)
  unfold Oper.wp
  simp [execOp, hop, resolve, invoke, builtin, hd, hx, hrun, Result.andThen]
  exact hK' _ _ hK

theorem at0 {o0 : Oper} {l : List Oper} : (o0 :: l).toArray[0]? = some o0 := rfl
theorem at1 {o0 o1 : Oper} {l : List Oper} : (o0 :: o1 :: l).toArray[1]? = some o1 := rfl
theorem at2 {o0 o1 o2 : Oper} {l : List Oper} : (o0 :: o1 :: o2 :: l).toArray[2]? = some o2 := rfl
theorem at3 {o0 o1 o2 o3 : Oper} {l : List Oper} : (o0 :: o1 :: o2 :: o3 :: l).toArray[3]? = some o3 := rfl
theorem at4 {o0 o1 o2 o3 o4 : Oper} {l : List Oper} : (o0 :: o1 :: o2 :: o3 :: o4 :: l).toArray[4]? = some o4 := rfl
theorem at5 {o0 o1 o2 o3 o4 o5 : Oper} {l : List Oper} : (o0 :: o1 :: o2 :: o3 :: o4 :: o5 :: l).toArray[5]? = some o5 := rfl
theorem at6 {o0 o1 o2 o3 o4 o5 o6 : Oper} {l : List Oper} : (o0 :: o1 :: o2 :: o3 :: o4 :: o5 :: o6 :: l).toArray[6]? = some o6 := rfl
theorem at7 {o0 o1 o2 o3 o4 o5 o6 o7 : Oper} {l : List Oper} : (o0 :: o1 :: o2 :: o3 :: o4 :: o5 :: o6 :: o7 :: l).toArray[7]? = some o7 := rfl
theorem at8 {o0 o1 o2 o3 o4 o5 o6 o7 o8 : Oper} {l : List Oper} : (o0 :: o1 :: o2 :: o3 :: o4 :: o5 :: o6 :: o7 :: o8 :: l).toArray[8]? = some o8 := rfl
theorem at9 {o0 o1 o2 o3 o4 o5 o6 o7 o8 o9 : Oper} {l : List Oper} : (o0 :: o1 :: o2 :: o3 :: o4 :: o5 :: o6 :: o7 :: o8 :: o9 :: l).toArray[9]? = some o9 := rfl
theorem at10 {o0 o1 o2 o3 o4 o5 o6 o7 o8 o9 o10 : Oper} {l : List Oper} : (o0 :: o1 :: o2 :: o3 :: o4 :: o5 :: o6 :: o7 :: o8 :: o9 :: o10 :: l).toArray[10]? = some o10 := rfl

/-- The 64 bytes laid over a write's row whose head stands. -/
theorem over_row (w : World) (X a : Nat) (t : List UInt8) (h0 : w.cell? ⟨X, 0 + 0, none⟩ = some (.int .i64 (a : Int))) (ht : w.there X 1 (secV t).length) : (w.setCells X 1 (secV t)).rangeAt X 0 (wrV (a, t)) := by
  have hs := World.rangeAt_setCells_same w X 1 (secV t) ht
  intro j v hv
  rcases j with _ | j
  · rw [World.cell?_setCells_out _ _ _ _ _ (fun _ _ => .inl (by simp)), h0, ← hv]
    simp [wrV]
  · have := hs j v (by simpa [wrV] using hv)
    rw [Nat.zero_add, Nat.add_comm]; exact this

def Dk.wrote (D : Dk) (a : Nat) (s : ByteArray) : Dk := { D.spent with pend := D.pend ++ [(a, s.data.toList)] }
theorem Dk.spent_ok {D : Dk} (h : D.Ok) : D.spent.Ok := by
  unfold Dk.spent; split
  · exact ⟨h.n1, h.n2, h.kept, h.pend, by have := h.left; dsimp only; omega, h.few⟩
  · exact h

/-- What lies behind a write. -/
theorem wrote_after {w w1 W5 w3 : World} {F : Foot} {D : Dk} {a : Nat} {s : ByteArray} {g cap : Nat} (hM : Moved (fun k => k = F.p) w w1) (hO : On w1 F D.spent) (hM5 : Moved (fun k => k = w1.heap.size) w1 W5) (hX : w1.heap.size < W5.heap.size)
    (hG : W5.grownBy w3 F.pv.ownBlock) (hW : w3.ownsRow 0 63 65 (.slice (some ⟨g, 0, none⟩) (D.pend.length + 1) cap) (D.pend.length + 1) (D.pend.flatMap wrV ++ wrV (a, s.data.toList))) (hat : some g = F.pv.ownBlock ∨ W5.heap.size ≤ g)
    (ha : a < D.n) (hs : s.data.toList.length = 64) (few : D.pend.length < 1000) (h0 : On w F D) :
    On (w3.setCell ⟨F.p, 1, none⟩ (.slice (some ⟨g, 0, none⟩) (D.pend.length + 1) cap)) { F with pv := .slice (some ⟨g, 0, none⟩) (D.pend.length + 1) cap } (D.wrote a s) ∧ (∀ k, (Value.slice (some ⟨g, 0, none⟩) (D.pend.length + 1) cap).ownBlock = some k → F.pv.ownBlock = some k ∨ w.heap.size ≤ k) ∧
      Moved F.has w (w3.setCell ⟨F.p, 1, none⟩ (.slice (some ⟨g, 0, none⟩) (D.pend.length + 1) cap)) := by
  have hO5 : On W5 F D.spent := hO.moved hM5 (fun k hk e => by have := hO.lt k hk; omega)
  have hm3 : Moved F.has W5 w3 := (Moved.of_grownBy hG).mono fun k _ e => .inr (.inr e)
  have hms : Moved (fun k => k = F.p) w3 (w3.setCell ⟨F.p, 1, none⟩ (.slice (some ⟨g, 0, none⟩) (D.pend.length + 1) cap)) := Moved.setCell (fun k => k = F.p) _ _ _ rfl
  have hgp : g ≠ F.p := by
    rcases hat with e | e
    · intro h; exact hO.ap1 (by rw [← e, h])
    · have := hO5.plt; omega
  have hgk : g ≠ F.kb := by
    rcases hat with e | e
    · intro h; exact hO.ap2 (by rw [← e, h])
    · have := hO5.klt; omega
  have hp3 : w3.heap[F.p]? = W5.heap[F.p]? := hG.block _ hO5.plt (fun e => hO.ap1 e.symm)
  have hk3 : w3.heap[F.kb]? = W5.heap[F.kb]? := hG.block _ hO5.klt (fun e => hO.ap2 e.symm)
  have hglt : g < w3.heap.size := (hW.lt g rfl).2
  have hbox := heap_setCell_same w3 F.p 1 (.slice (some ⟨g, 0, none⟩) (D.pend.length + 1) cap) (hp3.trans hO5.box)
  refine ⟨hO5.field (D' := D.wrote a s) _ hbox ((hms.block _ (by have := hG.size; have := hO5.klt; omega) hO.ne.symm).trans hk3) ?_ ?_ rfl rfl (fun e => hgp (Option.some.inj e)) (fun e => hgk (Option.some.inj e)), ?_, ?_⟩
  · have e1 : (D.wrote a s).pend = D.pend ++ [(a, s.data.toList)] := rfl
    rw [e1, List.length_append, List.flatMap_append, List.flatMap_singleton]
    exact ownsRow_kept hW fun k hk => hms.block k (by have := Option.some.inj hk; simp only at this; omega) (fun e => hgp ((Option.some.inj hk).trans e))
  · have ho := Dk.spent_ok h0.ok
    refine ⟨ho.n1, ho.n2, ho.kept, fun x hx => ?_, ho.left, ?_⟩
    · rcases List.mem_append.1 hx with hx | hx
      · have := h0.ok.pend x hx
        exact ⟨by show x.1 < D.spent.n; rw [Dk.spent_n]; exact this.1, this.2⟩
      · rw [List.mem_singleton.1 hx]
        exact ⟨by show a < D.spent.n; rw [Dk.spent_n]; exact ha, hs⟩
    · show (D.pend ++ [(a, s.data.toList)]).length ≤ 1000
      simp; omega
  · intro k hk
    rcases hat with e | e
    · exact .inl (e.symm.trans hk)
    · have h2 := Option.some.inj hk; have := hM.size; have := hM5.size; simp only at h2; right; omega
  · refine ((hM.mono fun k _ e => .inl e).trans hM5 (fun k hk e => by have := hM.size; omega)).trans (hm3.trans hms fun k _ e => .inl e) fun k _ e => e

set_option maxRecDepth 100000 in
set_option maxHeartbeats 2000000 in
theorem write_bad {w : World} {F : Foot} {D : Dk} (h : On w F D) (a : Int) (h1 : -9223372036854775808 ≤ a) (h2 : a ≤ 9223372036854775807) (s : ByteArray) (hbad : ¬ (0 ≤ a ∧ a < D.n ∧ s.size = 64)) :
    Calls Try.prog 21 #[.pointer (some ⟨F.p, 0, none⟩), .int .i64 a, .string s] w fun e w' => e = .returned (.int .i64 20) ∧ w = w' := by
  have hc := has_any h a h1 h2
  by_cases hin : 0 ≤ a ∧ a < D.n
  · rw [decide_eq_true hin] at hc
    have HC := Lib.hid hc
    have hsz : ((s.size : Int) != 64) = true := by simp; omega
    clear hc h hbad hin
    go_enter Try.func21, Try.ntmps21
    go_wp2_with (go_at_call 29; refine HC.out.mono ?_; rintro e w' ⟨rfl, rfl⟩)
    go_ret
    exact ⟨rfl, rfl⟩
  · rw [decide_eq_false hin] at hc
    have HC := Lib.hid hc
    clear hc h hbad hin
    go_enter Try.func21, Try.ntmps21
    go_wp2_with (go_at_call 29; refine HC.out.mono ?_; rintro e w' ⟨rfl, rfl⟩)
    go_ret
    exact ⟨rfl, rfl⟩

set_option maxRecDepth 100000 in
set_option maxHeartbeats 2000000 in
theorem write_off {w : World} {F : Foot} {D : Dk} (h : On w F D) (hp : D.powered = false) (a : Nat) (ha : a < D.n) (s : ByteArray) (hs : s.size = 64) :
    Calls Try.prog 21 #[.pointer (some ⟨F.p, 0, none⟩), .int .i64 (a : Int), .string s] w fun e w' => e = .returned (.int .i64 22) ∧ After F w D w' := by
  have n2 := h.ok.n2
  have hc := has_any h (a : Int) (by omega) (by omega)
  rw [decide_eq_true (by omega)] at hc
  have HC := Lib.hid hc
  have HP := Lib.hid (powered_off h hp)
  have hsz : ((s.size : Int) != 64) = false := by simp [hs]
  clear h hp hc
  go_enter Try.func21, Try.ntmps21
  go_wp2_with (first | (go_at_call 29; refine HC.out.mono ?_; rintro e w' ⟨rfl, rfl⟩) | (go_at_call 31; refine HP.out.mono ?_; rintro e w1 ⟨rfl, hO, hM⟩))
  go_ret
  exact ⟨rfl, F.pv, hO, fun k hk => .inl hk, hM.mono fun k _ e => .inl e⟩

set_option maxRecDepth 100000 in
set_option maxHeartbeats 2000000 in
theorem write_any {w : World} {F : Foot} {D : Dk} (h : On w F D) (hp : D.powered = true) (a : Nat) (ha : a < D.n) (s : ByteArray) (hs : s.size = 64) (few : D.pend.length < 1000) :
    Calls Try.prog 21 #[.pointer (some ⟨F.p, 0, none⟩), .int .i64 (a : Int), .string s] w fun e w' => e = .returned (.int .i64 0) ∧ After F w (D.wrote a s) w' := by
  have n2 := h.ok.n2
  have hc := has_any h (a : Int) (by omega) (by omega)
  rw [decide_eq_true (by omega)] at hc
  have HC := Lib.hid hc; clear hc
  have HP := Lib.hid (powered_on h hp)
  have hsz : ((s.size : Int) != 64) = false := by simp [hs]
  have hsl : (secV s.data.toList).length = 64 := by rw [secV_len]; simpa using hs
  have hx64 : s.data.toList.length = 64 := by simpa using hs
  have HH := Lib.hid (And.intro h (And.intro hsl hx64))
  clear h hp hsl hx64
  go_enter Try.func21, Try.ntmps21
  go_wp2_with (go_at_call 29; refine HC.out.mono ?_; rintro e w' ⟨rfl, rfl⟩)
  refine HP.out.mono ?_
  rintro e w1 ⟨rfl, hO, hM⟩
  have HO := Lib.hid hO
  have HM := Lib.hid hM
  clear hO hM
  have hzv := zeroWr
  have hne : (wrV (0, zeros) = []) = False := by simp [wrV]
  obtain ⟨z, hz⟩ : ∃ z, z = (a, zeros) := ⟨_, rfl⟩
  have hz2 : z.2.length = 64 := by rw [hz]; simp [zeros]
  have H4 := Lib.hid (copied w1 z hz2)
  have hin2 : (Try.prog.info? 63).map (·.size) = some (wrV z).toArray.size := by rw [show (wrV z).toArray.size = 65 from by simp [wrV_len, hz2]]; kernel_rfl
  have H3 := Lib.hid hin2
  have hset : (wrV (0, zeros)).set 0 (.int .i64 (a : Int)) = wrV z := by rw [hz]; rfl
  have hz0 : (wrV z)[0]? = some (.int .i64 (a : Int)) := by rw [hz]; simp [wrV]
  have HZ0 := Lib.hid hz0
  have HZ := Lib.hid (And.intro hz hz2)
  clear hin2 hz hz2 hz0
  have hth2 : ((w1.alloc (.cells (wrV (0, zeros)).toArray 63)).setCells w1.heap.size 0 (wrV z)).there w1.heap.size 1 s.size := fun j hj => by
    have := World.there_setCells H4.out.1 w1.heap.size 0 (wrV z) (j + 1) (by rw [show (wrV z).toArray.size = 65 by simp [wrV_len, HZ.out.2]]; omega)
    rw [Nat.zero_add, Nat.add_comm] at this
    exact this
  have hcopy := run_copy_string (P := Try.prog) ((w1.alloc (.cells (wrV (0, zeros)).toArray 63)).setCells w1.heap.size 0 (wrV z)) 67 9 3 5 w1.heap.size 1 64 64 s Try.underlying67 (Try.sizeOf5) (by omega) (fun j hj => (hth2 j hj).1) (fun j hj => (hth2 j hj).2)
  have HT2 := Lib.hid hth2
  clear hth2
  go_upto_region 9 with (first
    | (refine wpList_store_mid rfl 63 _ _ rfl w1.heap.size 0 (wrV z).toArray rfl rfl H4.out.1 H3.out (all_oneCell_toArray (wrV_one _)) ?_))
  obtain ⟨W5, hW5⟩ : ∃ W5, W5 = ((w1.alloc (.cells (wrV (0, zeros)).toArray 63)).setCells w1.heap.size 0 (wrV z)).setCells w1.heap.size 1 (secV s.data.toList) := ⟨_, rfl⟩
  change Code.wp _ _ _ _ (((w1.alloc (.cells (wrV (0, zeros)).toArray 63)).setCells w1.heap.size 0 (wrV z)).setCells w1.heap.size 1 (secV s.data.toList))
  rw [← hW5]
  have hm5 : Moved (fun k => k = w1.heap.size) w1 W5 := by
    rw [hW5]; exact H4.out.2.2.trans (moved_setCells (fun k => k = w1.heap.size) _ rfl _ _ _) fun _ _ x => x
  have hr5 : W5.rangeAt w1.heap.size 0 (wrV (a, s.data.toList)) := by
    rw [hW5]
    exact over_row _ _ a s.data.toList (H4.out.2.1 0 _ HZ0.out) (by rw [HH.out.2.1]; have := HT2.out; rw [hs] at this; exact this)
  have hO5 : On W5 F D.spent := HO.out.moved hm5 (fun k hk e => by have := HO.out.lt k hk; omega)
  have c1 := hO5.c1
  have f1 := hO5.fz 1
  have hown := hO5.row
  rw [Dk.spent_pend] at hown
  have hinfo : (Try.prog.info? 63).map (fun i => (i.zero, i.size, i.bytes)) = some (some (.agg (wrV (0, zeros)).toArray), 65, 72) := by kernel_rfl
  obtain ⟨i0, hi0, hz0, hz1, hz2⟩ := info_parts hinfo
  have hpX : F.p ≠ w1.heap.size := by have := HO.out.plt; omega
  have hgX : ∀ k, F.pv.ownBlock = some k → k ≠ w1.heap.size := fun k hk => by have := HO.out.lt k (.inr (.inr hk)); omega
  have hX5 : w1.heap.size < W5.heap.size := Kit.lt_of_cell (hr5 0 _ rfl)
  have hlen : (wrV (a, s.data.toList)).length = 65 := by rw [wrV_len, HH.out.2.2]
  obtain ⟨o, cap, hpv⟩ : ∃ o cap, F.pv = .slice o D.pend.length cap := by
    rcases HH.out.1.pending with ⟨h1, h2⟩ | ⟨g, cap, h1, _⟩
    · exact ⟨none, 0, by rw [h1, h2]; rfl⟩
    · exact ⟨_, cap, h1⟩
  have hap1 : some F.p ≠ F.pv.ownBlock := fun e => HH.out.1.ap1 e.symm
  have hp5 : F.p < W5.heap.size := hO5.plt
  have HO5 := Lib.hid hO5
  have HM5 := Lib.hid hm5
  have HOWN := Lib.hid hown
  have HAP := Lib.hid (And.intro hap1 (And.intro hgX hp5))
  have HPV := Lib.hid hpv
  rw [hpv] at c1
  have hu := Try.underlying63
  have hi : (Try.prog.info? 63).map (·.size) = some (wrV (a, s.data.toList)).length := by rw [hlen]; kernel_rfl
  clear hown hO5 hm5 hap1 hgX hpv hcopy hW5 hset hzv hne
  refine wp_region_held_drew (S := fun w' => w'.rangeAt w1.heap.size 0 (wrV (a, s.data.toList))) (by kernel_rfl) hr5 (fun hHeld => ?_)
  refine wpAnyH_take (i := 5) (v := _) at5 (by kernel_rfl) (by kernel_rfl) (by kernel_rfl) (fun _ _ _ h => h) (yieldsIf_load_mid (by rfl) 63 _ rfl w1.heap.size 0 rfl (wrV (a, s.data.toList)) _ (fun w h => h) hu rfl hi) hHeld ?_
  simp only [Act.put, List.setIfInBounds_toArray, List.set_cons_zero, List.set_cons_succ]
  refine wpAnyH_take (i := 0) (v := .pointer (some ⟨F.p, 0, none⟩)) at0 (by kernel_rfl) (by kernel_rfl) (by kernel_rfl) (fun _ _ _ h => h) (Or.inl ⟨by rfl, fun w hw => ?_⟩) hHeld ?_
  · go_simp
  simp only [Act.put, List.setIfInBounds_toArray, List.set_cons_zero, List.set_cons_succ]
  refine wpAnyH_take (i := 1) (v := .pointer (some ⟨F.p, 0, none⟩)) at1 (by kernel_rfl) (by kernel_rfl) (by kernel_rfl) (fun _ _ _ h => h) (Or.inl ⟨by rfl, fun w hw => ?_⟩) hHeld ?_
  · go_simp
  simp only [Act.put, List.setIfInBounds_toArray, List.set_cons_zero, List.set_cons_succ]
  refine wpAnyH_take (i := 2) (v := .pointer (some ⟨F.p, 0, none⟩)) at2 (by kernel_rfl) (by kernel_rfl) (by kernel_rfl) (fun _ _ _ h => h) (Or.inl ⟨by rfl, fun w hw => ?_⟩) hHeld ?_
  · go_simp
  simp only [Act.put, List.setIfInBounds_toArray, List.set_cons_zero, List.set_cons_succ]
  refine wpAnyH_take (i := 3) (v := .pointer (some ⟨F.p, 1, none⟩)) at3 (by kernel_rfl) (by kernel_rfl) (by kernel_rfl) (fun _ _ _ h => h) (Or.inl ⟨by rfl, fun w hw => ?_⟩) hHeld ?_
  · go_simp
  simp only [Act.put, List.setIfInBounds_toArray, List.set_cons_zero, List.set_cons_succ]
  refine wpAnyH_ready (rs := [4, 6]) (by kernel_rfl) (by simp) ?_
  refine AllReadyH.cons at4 (fun K hK => ?b1) (AllReadyH.cons at6 (fun K hK => ?b2) AllReadyH.nil)
  case' b1 =>
    go_simp
    refine hK.out _ _ hr5 (fun hHeld => ?_)
    clear hK K
    refine wpAnyH_ready (rs := [6]) (by kernel_rfl) (by simp) ?_
    refine AllReadyH.cons at6 (fun K hK => ?_) AllReadyH.nil
    refine Kit.step_buildSlice_one rfl 56 63 _ rfl (wrV (a, s.data.toList)) rfl i0 _ Try.underlying56 hi0 hz0 (hz1.trans hlen.symm) (by omega) (by omega) ?_
    refine hK.out _ _ (World.rangeAt_alloc hr5 _) (fun hHeld => ?_)
    clear hK K
    simp only [Act.put, List.setIfInBounds_toArray, List.set_cons_zero, List.set_cons_succ]
  case' b2 =>
    refine Kit.step_buildSlice_one rfl 56 63 _ rfl (wrV (a, s.data.toList)) rfl i0 _ Try.underlying56 hi0 hz0 (hz1.trans hlen.symm) (by omega) (by omega) ?_
    refine hK.out _ _ (World.rangeAt_alloc hr5 _) (fun hHeld => ?_)
    clear hK K
    simp only [Act.put, List.setIfInBounds_toArray, List.set_cons_zero, List.set_cons_succ]
    refine wpAnyH_ready (rs := [4]) (by kernel_rfl) (by simp) ?_
    refine AllReadyH.cons at4 (fun K hK => ?_) AllReadyH.nil
    have c1' : (W5.drew.alloc (.cells (wrV (a, s.data.toList)).toArray 63)).cell? ⟨F.p, 1, none⟩ = some (.slice o D.pend.length cap) := cell_alloc_drew c1 _
    go_simp
    refine hK.out _ _ (World.rangeAt_alloc hr5 _) (fun hHeld => ?_)
    clear hK K c1'
  all_goals
    refine wpAnyH_ready (rs := [7]) (by kernel_rfl) (by simp) ?_
    refine AllReadyH.cons at7 (fun K hK => ?_) AllReadyH.nil
    refine Kit.step_append_own_at rfl _ _ 56 rfl 0 63 i0 (.agg (wrV (0, zeros)).toArray) 65 72 Try.underlying56 hi0 hz0 hz1 hz2 rfl (by decide) F.pv D.pend.length (D.pend.flatMap wrV) (by exact HPV.out.symm) (HOWN.out.drew.alloc (.cells (wrV (a, s.data.toList)).toArray 63)) ⟨W5.heap.size, 0, none⟩ 1 1 (wrV (a, s.data.toList)) rfl (by rw [hlen]) (fun j u hu => by rw [Addr.add_mid]; exact Kit.cell_new W5.drew _ _ (0 + j) (by simpa using hu)) (wrV_one _) (by unfold maxLen; omega) (by omega) (by omega) ?_
    intro v' w3 hown' hgrow hat
    obtain ⟨g', cap', rfl⟩ := ownsRow_succ hown'
    have hg5 : W5.grownBy w3 F.pv.ownBlock := (Kit.grownBy_of_below ((Below.refl W5.heap.size W5).drew.alloc (Nat.le_refl _) (.cells (wrV (a, s.data.toList)).toArray 63)) F.pv.ownBlock).andThen hgrow (fun j e => .inr e)
    have c3 : w3.cell? ⟨F.p, 1, none⟩ = some (.slice o D.pend.length cap) := hg5.cell c1 HAP.out.1
    have f3 : w3.frozen? ⟨F.p, 1, none⟩ = false := (Kit.frozen_of_grownBy hg5 HAP.out.2.2 HAP.out.1).trans f1
    have hr3 : w3.rangeAt w1.heap.size 0 (wrV (a, s.data.toList)) := rangeAt_kept hr5 (hg5.block _ hX5 (fun e => HAP.out.2.1 _ e.symm rfl))
    have HG5 := Lib.hid hg5
    have hat2 : some g' = F.pv.ownBlock ∨ W5.heap.size ≤ g' := by
      rcases hat with e | e
      · exact .inl e
      · have h1 := Option.some.inj e
        have h2 := World.size_alloc W5 (.cells (wrV (a, s.data.toList)).toArray 63)
        have h3 : g' = (W5.alloc (.cells (wrV (a, s.data.toList)).toArray 63)).heap.size := h1
        right; omega
    have HOW := Lib.hid (And.intro hown' hat2)
    clear hown' hgrow hg5 hat hat2
    refine hK.out _ _ hr3 (fun hHeld => ?_)
    clear hK K
    simp only [Act.put, List.setIfInBounds_toArray, List.set_cons_zero, List.set_cons_succ]
    refine wpAnyH_take (i := 8) (v := .pointer (some ⟨F.p, 0, none⟩)) at8 (by kernel_rfl) (by kernel_rfl) (by kernel_rfl) (fun _ _ _ h => h) (Or.inl ⟨by rfl, fun w hw => ?_⟩) hHeld ?_
    case' refine_1 => go_simp
    simp only [Act.put, List.setIfInBounds_toArray, List.set_cons_zero, List.set_cons_succ]
    refine wpAnyH_take (i := 9) (v := .pointer (some ⟨F.p, 1, none⟩)) at9 (by kernel_rfl) (by kernel_rfl) (by kernel_rfl) (fun _ _ _ h => h) (Or.inl ⟨by rfl, fun w hw => ?_⟩) hHeld ?_
    case' refine_1 => go_simp
    simp only [Act.put, List.setIfInBounds_toArray, List.set_cons_zero, List.set_cons_succ]
    refine wpAnyH_ready (rs := [10]) (by kernel_rfl) (by simp) ?_
    refine AllReadyH.cons at10 (fun K hK => ?_) AllReadyH.nil
    clear c1 f1 hr5
    go_simp
    refine hK.out _ _ (World.rangeAt_setCells_apart hr3 F.p 1 [.slice (some ⟨g', 0, none⟩) (D.pend.length + 1) cap'] (.inl hpX.symm)) (fun _ => wpAnyH_done (by kernel_rfl) ?_ _)
    clear hK K
    go_wp2
    go_ret
    refine ⟨rfl, .slice (some ⟨g', 0, none⟩) (D.pend.length + 1) cap', ?_⟩
    exact wrote_after HM.out HO.out HM5.out hX5 HG5.out HOW.out.1 HOW.out.2 ha HH.out.2.2 few HH.out.1
end Go.Proofs.Ythmpdnndfgmmfaa.Disk
