/- Layer 1: the walk of Num. -/
import Derived.Test.YtbmhlpojgiminaaGreatDoorWireNum
import Derived.Test.YtbmhlpojgiminaaGreatDoorKit
namespace Go.Proofs.YtbmhlpojgiminaaGreatDoor.Wire
open Go.RowKit Go.Shelf

attribute [local go_sem] Oper.semAt_some

theorem info5 : (Tryz.prog.info? 5).map (fun i => (i.zero, i.size, i.bytes)) = some (some (.int .u8 0), 1, 1) := by kernel_rfl

set_option maxRecDepth 100000 in
set_option maxHeartbeats 2000000 in
theorem num_in (k : Nat) (hk : 3 ≤ k) (n : Int) (h1 : -9223372036854775808 ≤ n) (h2 : n ≤ 9223372036854775807) (w : World) :
    CallsIn Fence.wide k Tryz.prog 59 #[.int .i64 n] w fun e w' => e = .returned (.string ⟨(numB n).toArray⟩) ∧ Below w.heap.size w w' := by
  have hk1 : 1 ≤ k := by omega
  obtain ⟨i0, hinf, hz0, hz1, hz2⟩ := info_parts info5
  refine callsIn_of_wp_marks Tryz.func59 rfl trivial ?_ rfl
  simp only [Tryz.ntmps59, List.size_toArray, List.length_cons, List.length_nil, Nat.reduceAdd, Nat.reduceSub, Array.replicate_succ, Array.replicate_zero, List.push_toArray, List.append_toArray, List.nil_append, List.cons_append]
  gi_wp2_with (refine ⟨trivial, ?_⟩; gi_at_call 94; refine ((callsIn_wide (n := k - 1)).2 (groups_any n _)).mono ?_; rintro e w' ⟨rfl, rfl⟩)
  have bO := Boxed.new w 99 (.slice none 0 0)
  have bN := Boxed.new (w.alloc (.cells #[.slice none 0 0] 99)) 3 (.int .i64 n)
  rw [World.size_alloc] at bN
  have hB0 : Below w.heap.size w ((w.alloc (.cells #[.slice none 0 0] 99)).alloc (.cells #[.int .i64 n] 3)) := ((Below.refl _ w).alloc (Nat.le_refl _) _).alloc (by simp) _
  refine wpIn_rangeFunc_ownG rfl hk1 (gf := 109) (lb := #[.pointer (some ⟨w.heap.size + 1, 0, none⟩)]) rfl trivial (enters_of Tryz.func109 (by kernel_rfl) rfl)
    (groups_stops (k - 1) (by omega) (w.heap.size + 1) w.heap.size n h1 h2 _ (by simp) bN.cell) belowK_t (belowK_b (by simp; omega)) (Below.refl _ _) (fun _ => rfl)
    (fun pre W => (∃ v, Boxed W w.heap.size 99 v ∧ W.ownsRow w.heap.size 5 1 v pre.length ((bytesOf pre).map (Value.int .u8)) ∧ True) ∧ Below w.heap.size w W)
    (fun _ _ _ => False)
    (OwnFrom.and (Own.from (holdsRow_own w.heap.size w.heap.size 99 5 1 (fun pre => pre.length) (fun pre => (bytesOf pre).map (Value.int .u8)) (fun _ _ => True)) _) (ownFrom_below (Nat.le_refl _) (by simp; omega)))
    (fun _ _ _ _ _ hs _ _ => hs)
    ⟨⟨_, bO.alloc _, World.ownsRow_nil _ _ _ _, trivial⟩, hB0⟩
    (fun x => { tmps := #[.int .i64 n, undef, .string ⟨#[]⟩, .pointer (some ⟨w.heap.size, 0, none⟩), .int .u8 (x.val : Int), .int .i64 n, .func (.func 109) #[] #[.pointer (some ⟨w.heap.size + 1, 0, none⟩)], .int .u8 (x.val : Int), undef, undef, undef, undef, undef, undef, undef, undef, undef, undef, undef, undef, undef, undef, undef, undef, undef], defers := [] }) ?assign ?body ?done ?stop
  case assign =>
    intro l x W K hK
    gi_wp2
    exact hK
  case body =>
    rintro l pre x W ⟨⟨v, hv, hrow, _⟩, hB⟩ hlt
    have hc := hv.cell
    rcases List.eq_nil_or_concat pre with rfl | ⟨p, y, rfl⟩
    · obtain ⟨a0, cap0, rfl⟩ : ∃ a0 cap0, v = .slice a0 0 cap0 := by
        rcases hrow.2 with ⟨rfl, _⟩ | ⟨g, cap, cur, rfl, _⟩
        · exact ⟨_, _, rfl⟩
        · exact ⟨_, _, rfl⟩
      have hrow' : W.ownsRow w.heap.size 5 1 (.slice a0 0 cap0) 0 [] := hrow
      gi_wp2_with (gi_at_builtin; refine wpListIn_append_own _ rfl _ _ 99 rfl w.heap.size 5 i0 (.int .u8 0) 1 1 Tryz.underlying99 hinf hz0 hz1 hz2 rfl (by decide) _ _ _ rfl (hrow'.alloc _) ⟨W.heap.size, 0, none⟩ 1 1 [.int .u8 (x.val : Int)] rfl rfl (cell_one_new _ _ _) (by simp [Value.oneCell']) (by unfold maxLen; omega) (by omega) (by have := hB.size; simp; omega) ?_; intro v' w1 hown' hgrow _; obtain ⟨g', cap', rfl⟩ := ownsRow_succ hown'; obtain ⟨hv1, hv2, hr2, hk2, hb2⟩ := hv.appended (by decide) hrow' hB.size (Nat.le_refl _) hown' hgrow; have hc1 := hv1.cell; have hf1 := hv1.frozen)
      exact ⟨hk2.from _, hb2, ⟨⟨_, hv2, hr2, trivial⟩, hB.trans hb2⟩⟩
    · rw [List.concat_eq_append] at hrow hlt ⊢
      have hp : (p ++ [y]).length = p.length + 1 := by simp
      rw [hp] at hrow hlt
      obtain ⟨g, cap, rfl⟩ := ownsRow_succ hrow
      rw [bytesOf_snoc] at hrow
      have hcy : W.cell? ⟨g, p.length, none⟩ = some (.int .u8 (y.val : Int)) := by
        rw [hrow.cellAt p.length (by omega)]
        simp [hi_len]
      have hfy : W.frozen? ⟨g, p.length, none⟩ = false := hrow.frozenAt _
      obtain ⟨hst, hgr⟩ := hrow.stored p.length (.int .u8 ((y.val : Int) + 128))
      have hset : ((hi p ++ [(y.val : Int)]).map (Value.int .u8)).set p.length (.int .u8 ((y.val : Int) + 128)) = (hi (p ++ [y])).map (Value.int .u8) := by
        rw [hi_snoc]
        simp [hi_len]
      rw [hset] at hst
      have hne : some w.heap.size ≠ some g := by
        intro e
        exact hv.not_row (by decide) hrow (by rw [e]; rfl)
      have hv1 := hv.kept hgr hne
      have hBg : Below w.heap.size W (W.setCell ⟨g, p.length, none⟩ (.int .u8 ((y.val : Int) + 128))) := (Below.refl _ W).setCell (p := ⟨g, p.length, none⟩) (by have := (hrow.lt g rfl).1; exact this) _
      have hKg : KeepsOthers W (W.setCell ⟨g, p.length, none⟩ (.int .u8 ((y.val : Int) + 128))) := KeepsOthers.setCell _ _ _
      have hc1 := hv1.cell
      have hy1 : (y.val : Int) + 128 < 256 := by omega
      have hln : (p.length : Int) < 9 := by omega
      clear hset hgr hrow hp
      have hsz := hBg.size
      have hn0 := hB.size
      have hlen2 : ((hi (p ++ [y])).map (Value.int .u8) ++ [Value.int .u8 (x.val : Int)]) = (bytesOf (p ++ [y] ++ [x])).map (Value.int .u8) := by rw [bytesOf_snoc]; simp
      have HL := Lib.hid hlen2; clear hlen2
      have hcn := cell_one_new (W.setCell ⟨g, p.length, none⟩ (.int .u8 ((y.val : Int) + 128))) (.int .u8 (x.val : Int)) 5
      rw [World.size_setCell] at hcn
      have HC := Lib.hid hcn; clear hcn
      gi_wp2_with (gi_at_builtin; refine wpListIn_append_own _ rfl _ _ 99 rfl w.heap.size 5 i0 (.int .u8 0) 1 1 Tryz.underlying99 hinf hz0 hz1 hz2 rfl (by decide) _ _ _ rfl (hst.alloc _) ⟨W.heap.size, 0, none⟩ 1 1 [.int .u8 (x.val : Int)] rfl rfl HC.out (by simp [Value.oneCell']) (by unfold maxLen; omega) (by omega) (by simp; omega) ?_; intro v' w1 hown' hgrow _; obtain ⟨g', cap', rfl⟩ := ownsRow_succ hown'; obtain ⟨hv1', hv2, hr2, hk2, hb2⟩ := hv1.appended (by decide) hst (Nat.le_trans hn0 hsz) (Nat.le_refl _) hown' hgrow; have hc1' := hv1'.cell; have hf1 := hv1'.frozen)
      rw [HL.out] at hr2
      exact ⟨(hKg.trans hk2).from _, hBg.trans hb2, ⟨⟨_, hv2, by simpa using hr2, trivial⟩, hB.trans (hBg.trans hb2)⟩⟩
  case done =>
    rintro D ys W hD rfl ⟨⟨v, hv, hrow, _⟩, hB⟩ hK
    have hc := hv.cell
    have hcv := Kit.conv_own (P := Tryz.prog) hrow (bytesOf_len _) Tryz.underlying99 Tryz.underlying5 Tryz.underlying9
    gi_wp2
    refine ⟨by simp, .inl ⟨_, _, rfl, run_takeDeferred hK, ?_⟩⟩
    exact ⟨_, results_tmp rfl _ _ _, rfl, hB.trans (belowK_b (w := w) (Nat.le_refl _) W D _ _ (by simp at hD; omega) hK rfl rfl)⟩
  case stop =>
    rintro D c pre W _ _ h _
    exact h.elim
end Go.Proofs.YtbmhlpojgiminaaGreatDoor.Wire
