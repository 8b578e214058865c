/- Layer 3: reading a list. -/
import Derived.Test.YtmobnlofbopbeaaGreatDoorValRun5
import Derived.Laws.AppendOwn
import Derived.Laws.OwnMore
namespace Go.Proofs.YtmobnlofbopbeaaGreatDoor.Val
open Go.RowKit
open Kit (ret_int ret_bool Moved)

/-- What stands behind a list's bracket: it, whether it is right, and the place. -/
def lstF (s : ByteArray) : Nat → List Vl → Nat → (Vl × Bool) × Nat
  | 0, _, a => ((flat 0 0 (bs []), false), a)
  | g + 1, l, a =>
    if 12 ≤ l.length then ((flat 0 0 (bs []), false), a)
    else if (itemN s a).1.2 = false then ((flat 0 0 (bs []), false), (itemN s a).2)
    else if hereN s (itemN s a).2 = 93 then ((.mk 5 0 (bs []) (l ++ [(itemN s a).1.1]), true), stepN s (itemN s a).2)
    else if hereN s (itemN s a).2 = 32 then lstF s g (l ++ [(itemN s a).1.1]) (stepN s (itemN s a).2)
    else ((flat 0 0 (bs []), false), (itemN s a).2)
def lstN (s : ByteArray) (a : Nat) : (Vl × Bool) × Nat := if hereN s a = 93 then ((.mk 5 0 (bs []) [], true), stepN s a) else lstF s 13 [] a

theorem txtF_flat (s : ByteArray) : ∀ (g : Nat) (b : List Int) (a : Nat), (txtF s g b a).1.1.isFlat
  | 0, _, _ => rfl
  | g + 1, b, a => by
    rw [txtF]
    split
    · rfl
    · split
      · rfl
      · split
        · rfl
        · split
          · split
            · rfl
            · exact txtF_flat s g _ _
          · exact txtF_flat s g _ _
theorem itemN_flat (s : ByteArray) (a : Nat) : (itemN s a).1.1.isFlat := by
  unfold itemN
  split
  · exact txtF_flat s _ _ _
  · split
    · rfl
    · split
      · rfl
      · split
        · rfl
        · split
          · split <;> rfl
          · rfl

theorem lstF_flat (s : ByteArray) : ∀ (g : Nat) (l : List Vl) (a : Nat), (∀ x ∈ l, x.isFlat) → ∀ y ∈ (lstF s g l a).1.1.l, y.isFlat
  | 0, _, _, _, y, hy => by cases hy
  | g + 1, l, a, hl, y, hy => by
    have hl2 : ∀ x ∈ l ++ [(itemN s a).1.1], x.isFlat := fun x hx => by
      rcases List.mem_append.1 hx with hx | hx
      · exact hl x hx
      · rw [List.mem_singleton.1 hx]; exact itemN_flat s a
    rw [lstF] at hy
    split at hy
    · cases hy
    · split at hy
      · cases hy
      · split at hy
        · exact hl2 y hy
        · split at hy
          · exact lstF_flat s g _ _ hl2 y hy
          · cases hy
theorem lstN_flat (s : ByteArray) (a : Nat) : ∀ y ∈ (lstN s a).1.1.l, y.isFlat := by
  unfold lstN
  split
  · intro y hy; cases hy
  · exact lstF_flat s _ _ _ (fun _ h => by cases h)

/-- What is answered, with its list, and what stands then. -/
def LstPost (ae : Addr) (w0 w : World) (bl s0 ba : Nat) (s : ByteArray) (A : (Vl × Bool) × Nat) (e : Ending) (w' : World) : Prop :=
  (∃ lv, e = .returned (.tuple #[aggV A.1.1.k A.1.1.n A.1.1.s lv, .bool A.1.2]) ∧ RepL w'.heap.size w' A.1.1.l lv ∧ Fresh w.heap.size lv) ∧ RT ae w0 bl s0 ba s A.2 w' ∧ Moved (fun k => k = ba) w w'

/-- What stands in the round of reading a list. -/
structure LK (ae : Addr) (w0 w : World) (bl s0 ba : Nat) (s : ByteArray) (l : List Vl) (lv : Value) (p : Nat) (wx : World) : Prop where
  ib : IB ae w0 w bl s0 ba s p wx
  v : BoxF wx (w.heap.size + 2) (.int .i64 5) (.int .i64 0) (.string ⟨#[]⟩) lv
  row : wx.ownsRow (w.heap.size + 3) 30 4 lv l.length (l.flatMap cellsF)
  nil : l.length = 0 → lv = .slice none 0 0
  fl : ∀ x ∈ l, x.isFlat
  sz : w.heap.size + 3 ≤ wx.heap.size
theorem LK.call {ae : Addr} {w0 w : World} {bl s0 ba : Nat} {s : ByteArray} {l : List Vl} {lv : Value} {p q : Nat} {wx w' : World} (h : LK ae w0 w bl s0 ba s l lv p wx) (hRT : RT ae w0 bl s0 ba s q w') (hM : Moved (fun k => k = ba) wx w') : LK ae w0 w bl s0 ba s l lv q w' := by
  have := h.ib.rb.ab
  exact ⟨h.ib.call hRT hM, h.v.moved hM (by omega), Kit.ownsRow_moved h.row hM (fun k hk hk2 => by omega), h.nil, h.fl, by have := hM.size; have := h.sz; omega⟩
theorem LK.later {ae : Addr} {w0 w : World} {bl s0 ba : Nat} {s : ByteArray} {l : List Vl} {lv : Value} {p : Nat} {wx w' : World} (h : LK ae w0 w bl s0 ba s l lv p wx) (hB : Below wx.heap.size wx w') : LK ae w0 w bl s0 ba s l lv p w' := by
  have hz := h.sz
  exact ⟨⟨h.ib.rt.later hB, h.ib.rb.later hB, h.ib.ws, h.ib.lb, h.ib.ls⟩, h.v.moved (Kit.Moved.of_below hB) (by omega), Kit.ownsRow_kept h.row (fun k hk => hB.block k (h.row.lt k hk).2), h.nil, h.fl, by have := hB.size; omega⟩
/-- The list that is answered: behind the answer's own cells. -/
theorem LK.ans {ae : Addr} {w0 w : World} {bl s0 ba : Nat} {s : ByteArray} {l : List Vl} {lv : Value} {p : Nat} {wx : World} (h : LK ae w0 w bl s0 ba s l lv p wx) (v0 v1 v2 v3 : Value) :
    RepL ((((wx.setCell ⟨w.heap.size + 1, 0, none⟩ v0).setCell ⟨w.heap.size + 1, 1, none⟩ v1).setCell ⟨w.heap.size + 1, 2, none⟩ v2).setCell ⟨w.heap.size + 1, 3, none⟩ v3).heap.size ((((wx.setCell ⟨w.heap.size + 1, 0, none⟩ v0).setCell ⟨w.heap.size + 1, 1, none⟩ v1).setCell ⟨w.heap.size + 1, 2, none⟩ v2).setCell ⟨w.heap.size + 1, 3, none⟩ v3) l lv ∧ Fresh w.heap.size lv := by
  refine ⟨repL_own (e := 30) (base := w.heap.size + 3) (Kit.ownsRow_kept h.row fun j hj => ?_) rfl h.fl h.nil, fun j hj => by have := (h.row.lt j hj).1; omega⟩
  have := h.row.lt j hj
  exact (end4b (w.heap.size + 1) wx v0 v1 v2 v3).block j this.2 (by omega)
theorem LK.grow {ae : Addr} {w0 w : World} {bl s0 ba : Nat} {s : ByteArray} {l : List Vl} {lv : Value} {p : Nat} {wx w6 : World} {o : Obj} (h : LK ae w0 w bl s0 ba s l lv p wx) (hg : (wx.alloc o).grownBy w6 lv.ownBlock) :
    w6.cell? ⟨w.heap.size + 2, 3, none⟩ = some lv ∧ w6.frozen? ⟨w.heap.size + 2, 3, none⟩ = false ∧ w6.cell? ⟨w.heap.size, 0, none⟩ = some (rf3 bl) ∧ w6.cell? ⟨w.heap.size, 1, none⟩ = some (rf4 bl ba) ∧ w6.cell? ⟨w.heap.size, 2, none⟩ = some (rf5 ba) := by
  have hl := h.later (Kit.below_alloc wx o)
  have hm : Moved (fun j => w.heap.size + 3 ≤ j) (wx.alloc o) w6 := (Kit.Moved.of_grownBy hg).mono fun j _ hj => (h.row.lt j hj).1
  have := hl.v.moved hm (by omega)
  exact ⟨this.c.2.2.2, this.f 3, cell_moved hl.ib.rb.c0 hm (by omega), cell_moved hl.ib.rb.c1 hm (by omega), cell_moved hl.ib.rb.c2 hm (by omega)⟩
theorem LK.push {ae : Addr} {w0 w : World} {bl s0 ba : Nat} {s : ByteArray} {l : List Vl} {lv v' : Value} {p : Nat} {wx w6 : World} {o : Obj} {x : Vl} (h : LK ae w0 w bl s0 ba s l lv p wx) (hx : x.isFlat) (hg : (wx.alloc o).grownBy w6 lv.ownBlock)
    (hown : w6.ownsRow (w.heap.size + 3) 30 4 v' (l.length + 1) (l.flatMap cellsF ++ cellsF x)) : LK ae w0 w bl s0 ba s (l ++ [x]) v' p (w6.setCell ⟨w.heap.size + 2, 3, none⟩ v') := by
  have hl := h.later (Kit.below_alloc wx o)
  have hm : Moved (fun j => w.heap.size + 3 ≤ j) (wx.alloc o) w6 := (Kit.Moved.of_grownBy hg).mono fun j _ hj => (h.row.lt j hj).1
  have hms : Moved (fun j => j = w.heap.size + 2) w6 (w6.setCell ⟨w.heap.size + 2, 3, none⟩ v') := Kit.Moved.setCell _ _ _ _ rfl
  have hmt : Moved (fun j => w.heap.size + 2 ≤ j) (wx.alloc o) (w6.setCell ⟨w.heap.size + 2, 3, none⟩ v') := (hm.mono (T := fun j => w.heap.size + 2 ≤ j) (fun j _ hj => by omega)).trans hms (fun j _ hj => by omega)
  have hab := h.ib.rb.ab
  have hlb := h.ib.lb
  have hls := h.ib.ls
  have hws := h.ib.ws
  have hsz := hl.sz
  have hz6 := hmt.size
  refine ⟨⟨hl.ib.rt.moved hmt (fun k hk => by omega) (by omega) (by omega) (by omega), hl.ib.rb.step hmt (fun j hj => by omega), hws, hlb, hls⟩, (hl.v.moved hm (by omega)).set3 v', ?_, ?_, ?_, by omega⟩
  · rw [List.length_append, List.flatMap_append, List.flatMap_singleton]
    exact Kit.ownsRow_kept hown fun j hj => hms.block j (hown.lt j hj).2 (by have := (hown.lt j hj).1; omega)
  · intro h0; simp at h0
  · intro y hy
    rcases List.mem_append.1 hy with hy | hy
    · exact h.fl y hy
    · rw [List.mem_singleton.1 hy]; exact hx
theorem LK.slice {ae : Addr} {w0 w : World} {bl s0 ba : Nat} {s : ByteArray} {l : List Vl} {lv : Value} {p : Nat} {wx : World} (h : LK ae w0 w bl s0 ba s l lv p wx) : ∃ a1 c1, lv = .slice a1 l.length c1 := by
  rcases h.row.2 with ⟨h1, h2⟩ | ⟨g, cap, cur, h1, _⟩
  · exact ⟨none, 0, by rw [h1, h2]⟩
  · exact ⟨_, _, h1⟩

set_option maxRecDepth 100000 in
set_option maxHeartbeats 4000000 in
theorem list_read (ae : Addr) (w0 : World) (bl s0 ba : Nat) (s : ByteArray) (a : Nat) (w : World) (h : RT ae w0 bl s0 ba s a w) :
    Calls Tryz.prog 100 #[ruV bl ba] w (LstPost ae w0 w bl s0 ba s (lstN s a)) := by
  obtain ⟨W0, hW0⟩ : ∃ W0, W0 = (w.alloc (.cells #[rf3 bl, rf4 bl ba, rf5 ba] 82)).alloc (.cells #[.int .i64 0, .int .i64 0, .string ⟨#[]⟩, .slice none 0 0] 30) := ⟨_, rfl⟩
  have hI := item_begins h hW0
  have hz0 : W0.heap.size = w.heap.size + 2 := by rw [hW0]; simp
  have hX := boxF_new W0 (.int .i64 5) (.int .i64 0) (.string ⟨#[]⟩) (.slice none 0 0) 30
  rw [hz0] at hX
  have hB0 := Kit.below_alloc W0 (.cells #[.int .i64 5, .int .i64 0, .string ⟨#[]⟩, .slice none 0 0] 30)
  have K0 := Lib.hid (show LK ae w0 w bl s0 ba s [] (.slice none 0 0) a (W0.alloc (.cells #[.int .i64 5, .int .i64 0, .string ⟨#[]⟩, .slice none 0 0] 30)) from
    ⟨⟨hI.rt.later hB0, hI.rb.later hB0, hI.ws, hI.lb, hI.ls⟩, hX, World.ownsRow_nil _ _ _ _, fun _ => rfl, (fun _ h => by cases h), by rw [World.size_alloc]; omega⟩)
  have HZ := Lib.hid hz0
  clear h hI hz0 hX hB0
  obtain ⟨c1, c2, c3⟩ := K0.out.ib.cells
  unfold lstN
  by_cases hc : hereN s a = 93
  · rw [if_pos hc]
    go_enter Tryz.func100, Tryz.ntmps100
    go_wp2_with fail
    change Calls _ _ _ (((w.alloc (.cells #[rf3 bl, rf4 bl ba, rf5 ba] 82)).alloc (.cells #[.int .i64 0, .int .i64 0, .string ⟨#[]⟩, .slice none 0 0] 30)).alloc (.cells #[.int .i64 5, .int .i64 0, .string ⟨#[]⟩, .slice none 0 0] 30)) _
    rw [← hW0]
    clear hW0
    refine (skip_yes ae w0 bl s0 ba s a 93 _ K0.out.ib.rt (eq_true_of hc)).mono ?_
    rintro e w1 ⟨rfl, hRT, hM⟩
    have K1 := Lib.hid (K0.out.call hRT hM)
    clear hRT hM c1 c2 c3
    obtain ⟨⟨y0, y1, y2, y3⟩, yf0, yf1, yf2, yf3⟩ := K1.out.ib.res
    obtain ⟨⟨x0, x1, x2, x3⟩, _⟩ := K1.out.v
    have HF := Lib.hid (K1.out.ib.fin (.int .i64 5) (.int .i64 0) (.string (bs [])) (.slice none 0 0))
    have HN := Lib.hid (K1.out.ans)
    go_wp2
    refine bodyPost_ret (v := .tuple #[aggV 5 0 (bs []) (.slice none 0 0), .bool true]) (by simp [results, Tryz.results100, go_sem, y0, y1, y2, y3]) rfl ?_
    exact ⟨⟨_, rfl, HN.out _ _ _ _⟩, HF.out.1, HF.out.2⟩
  · rw [if_neg hc]
    obtain ⟨ANS, hANS⟩ : ∃ ANS, lstF s 13 [] a = ANS := ⟨_, rfl⟩
    rw [hANS]
    obtain ⟨i0, hi0, hz0, hz1, hz2⟩ := info_parts vInfo3
    go_enter Tryz.func100, Tryz.ntmps100
    go_wp2_with fail
    change Calls _ _ _ (((w.alloc (.cells #[rf3 bl, rf4 bl ba, rf5 ba] 82)).alloc (.cells #[.int .i64 0, .int .i64 0, .string ⟨#[]⟩, .slice none 0 0] 30)).alloc (.cells #[.int .i64 5, .int .i64 0, .string ⟨#[]⟩, .slice none 0 0] 30)) _
    rw [← hW0]
    clear hW0
    refine (skip_no ae w0 bl s0 ba s a 93 _ K0.out.ib.rt (eq_false_of hc)).mono ?_
    rintro e w1 ⟨rfl, hRT, hM⟩
    have K1 := Lib.hid (K0.out.call hRT hM)
    clear hRT hM c1 c2 c3 hc
    go_wp2
    go_loopg [5, 6] 13 (fun gk _ _ wx => ∃ (l : List Vl) (lv : Value) (p : Nat), 1 ≤ gk ∧ lstF s gk l p = ANS ∧ 13 ≤ l.length + gk ∧ l.length ≤ 12 ∧ LK ae w0 w bl s0 ba s l lv p wx)
    case atStart => exact ⟨[], _, a, by omega, hANS, by simp, by simp, K1.out⟩
    case round =>
      obtain ⟨l, lv, p, hg1, hA, hg, hl12, hK⟩ := hrel
      obtain ⟨a1, c1, rfl⟩ := hK.slice
      obtain ⟨g', rfl⟩ : ∃ g', gk = g' + 1 := ⟨gk - 1, by omega⟩
      have KR := Lib.hid hK
      clear hANS K1 K0 hK
      rw [lstF] at hA
      have x3 := KR.out.v.c.2.2.2
      by_cases h12 : 12 ≤ l.length
      · rw [if_pos h12] at hA
        have HA := Lib.hid hA
        have h12z : ¬ (l.length : Int) < 12 := by omega
        clear hA
        obtain ⟨⟨y0, y1, y2, y3⟩, yf0, yf1, yf2, yf3⟩ := KR.out.ib.res
        have HF := Lib.hid (KR.out.ib.fin (.int .i64 0) (.int .i64 0) (.string (bs [])) (.slice none 0 0))
        go_wp2
        refine bodyPost_ret (v := .tuple #[flatV 0 0 (bs []), .bool false]) (by simp [results, Tryz.results100, go_sem, y0, y1, y2, y3]) rfl ?_
        rw [← HA.out]
        exact ⟨⟨_, rfl, .inl ⟨rfl, rfl⟩, fun j hj => by cases hj⟩, HF.out.1, HF.out.2⟩
      · rw [if_neg h12] at hA
        have h12z : (l.length : Int) < 12 := by omega
        obtain ⟨q1, q2, q3⟩ := KR.out.ib.cells
        have hfl := itemN_flat s p
        have HT := item_any ae w0 bl s0 ba s p wr KR.out.ib.rt
        generalize itemN s p = A at *
        obtain ⟨⟨x, ok⟩, r⟩ := A
        unfold TxtPost at HT
        dsimp only at HT hA hfl
        have HT2 := Lib.hid HT
        have HFL := Lib.hid hfl
        clear HT hfl
        cases ok
        · rw [if_pos rfl] at hA
          have HA := Lib.hid hA
          clear hA
          go_wp2_with fail
          refine HT2.out.mono ?_
          rintro e w2 ⟨rfl, hRT, hM⟩
          have K2 := Lib.hid ((KR.out.call hRT hM).later (Kit.below_alloc w2 (.cells #[.int .i64 x.k, .int .i64 x.n, .string x.s, .slice none 0 0] 30)))
          clear hRT hM q1 q2 q3 x3
          obtain ⟨⟨y0, y1, y2, y3⟩, yf0, yf1, yf2, yf3⟩ := K2.out.ib.res
          have HF := Lib.hid (K2.out.ib.fin (.int .i64 0) (.int .i64 0) (.string (bs [])) (.slice none 0 0))
          go_wp2
          refine bodyPost_ret (v := .tuple #[flatV 0 0 (bs []), .bool false]) (by simp [results, Tryz.results100, go_sem, y0, y1, y2, y3]) rfl ?_
          rw [← HA.out]
          exact ⟨⟨_, rfl, .inl ⟨rfl, rfl⟩, fun j hj => by cases hj⟩, HF.out.1, HF.out.2⟩
        · rw [if_neg (by simp)] at hA
          have HA0 := Lib.hid hA
          clear hA
          go_wp2_with fail
          refine HT2.out.mono ?_
          rintro e w2 ⟨rfl, hRT, hM⟩
          have y3 := (KR.out.call hRT hM).v.c.2.2.2
          have K2 := Lib.hid ((KR.out.call hRT hM).later (Kit.below_alloc w2 (.cells #[.int .i64 x.k, .int .i64 x.n, .string x.s, .slice none 0 0] 30)))
          clear hRT hM q1 q2 q3 x3
          have hlt : w.heap.size + 2 < w2.heap.size := Kit.lt_of_cell y3
          have x3 := y3
          clear y3
          go_upto_region 8 with (at_builtin; refine wpList_append_own _ rfl _ _ 28 rfl (w.heap.size + 3) 30 i0 (.agg zero4.toArray) 4 56 Tryz.underlying28 hi0 hz0 hz1 hz2 rfl (by decide) _ _ _ rfl (K2.out.row.alloc (.cells #[.int .i64 x.k, .int .i64 x.n, .string x.s, .slice none 0 0] 30)) ⟨w2.heap.size + 1, 0, none⟩ 1 1 (cellsF x) rfl rfl (fun j u hu => by rw [Addr.add_mid]; have := Kit.cell_new (w2.alloc (.cells #[.int .i64 x.k, .int .i64 x.n, .string x.s, .slice none 0 0] 30)) #[.int .i64 x.k, .int .i64 x.n, .string x.s, .slice none 0 0] 30 (0 + j) (v := u) (by simpa [cellsF, cellsV] using hu); rw [World.size_alloc] at this; exact this) (cellsF_one x) (by unfold maxLen; omega) (by omega) (by have := K2.out.sz; simp only [World.size_alloc] at this ⊢; omega) ?_; intro v' w6 hown' hgrow _; obtain ⟨g, cap, rfl, hgb, hgl⟩ := Kit.ownsRow_succ' hown'; have K6 := Lib.hid (K2.out.push HFL.out hgrow hown'); obtain ⟨z6, zf6, u0, u1, u2⟩ := K2.out.grow hgrow; clear hown' hgrow hgb hgl K2)
          by_cases q93 : hereN s r = 93
          · have HA := Lib.hid (HA0.out)
            rw [if_pos q93] at HA
            go_wp2_with fail
            refine (skip_yes ae w0 bl s0 ba s r 93 _ K6.out.ib.rt (eq_true_of q93)).mono ?_
            rintro e w7 ⟨rfl, hRT, hM⟩
            have K7 := Lib.hid (K6.out.call hRT hM)
            clear hRT hM u0 u1 u2 z6 zf6
            obtain ⟨⟨y0, y1, y2, y3⟩, yf0, yf1, yf2, yf3⟩ := K7.out.ib.res
            obtain ⟨⟨x0, x1, x2, x3⟩, _⟩ := K7.out.v
            have HF := Lib.hid (K7.out.ib.fin (.int .i64 5) (.int .i64 0) (.string (bs [])) (.slice (some ⟨g, 0, none⟩) (l.length + 1) cap))
            have HN := Lib.hid (K7.out.ans)
            go_wp2
            refine bodyPost_ret (v := .tuple #[aggV 5 0 (bs []) (.slice (some ⟨g, 0, none⟩) (l.length + 1) cap), .bool true]) (by simp [results, Tryz.results100, go_sem, y0, y1, y2, y3]) rfl ?_
            rw [← HA.out]
            exact ⟨⟨_, rfl, HN.out _ _ _ _⟩, HF.out.1, HF.out.2⟩
          · go_wp2_with fail
            refine (skip_no ae w0 bl s0 ba s r 93 _ K6.out.ib.rt (eq_false_of q93)).mono ?_
            rintro e w7 ⟨rfl, hRT, hM⟩
            have K7 := Lib.hid (K6.out.call hRT hM)
            obtain ⟨t0, t1, t2⟩ := K7.out.ib.cells
            clear hRT hM u0 u1 u2 z6 zf6
            by_cases q32 : hereN s r = 32
            · have HA := Lib.hid (HA0.out)
              rw [if_neg q93, if_pos q32] at HA
              go_wp2_with fail
              refine (skip_yes ae w0 bl s0 ba s r 32 _ K7.out.ib.rt (eq_true_of q32)).mono ?_
              rintro e w8 ⟨rfl, hRT, hM⟩
              have K8 := Lib.hid (K7.out.call hRT hM)
              clear hRT hM t0 t1 t2
              go_wp2
              go_roundg g'
              case rel => exact ⟨l ++ [x], _, stepN s r, by omega, HA.out, by simp; omega, by simp; omega, K8.out⟩
              case measure => omega
            · have HA := Lib.hid (HA0.out)
              rw [if_neg q93, if_neg q32] at HA
              go_wp2_with fail
              refine (skip_no ae w0 bl s0 ba s r 32 _ K7.out.ib.rt (eq_false_of q32)).mono ?_
              rintro e w8 ⟨rfl, hRT, hM⟩
              have K8 := Lib.hid (K7.out.call hRT hM)
              clear hRT hM t0 t1 t2
              obtain ⟨⟨y0, y1, y2, y3⟩, yf0, yf1, yf2, yf3⟩ := K8.out.ib.res
              have HF := Lib.hid (K8.out.ib.fin (.int .i64 0) (.int .i64 0) (.string (bs [])) (.slice none 0 0))
              go_wp2
              refine bodyPost_ret (v := .tuple #[flatV 0 0 (bs []), .bool false]) (by simp [results, Tryz.results100, go_sem, y0, y1, y2, y3]) rfl ?_
              rw [← HA.out]
              exact ⟨⟨_, rfl, .inl ⟨rfl, rfl⟩, fun j hj => by cases hj⟩, HF.out.1, HF.out.2⟩

set_option maxRecDepth 100000 in
set_option maxHeartbeats 1000000 in
/-- A value, read. -/
theorem value_read (ae : Addr) (w0 : World) (bl s0 ba : Nat) (s : ByteArray) (a : Nat) (w : World) (h : RT ae w0 bl s0 ba s a w) :
    Calls Tryz.prog 62 #[ruV bl ba] w (LstPost ae w0 w bl s0 ba s (if hereN s a = 91 then lstN s (stepN s a) else itemN s a)) := by
  obtain ⟨W0, hW0⟩ : ∃ W0, W0 = (w.alloc (.cells #[rf3 bl, rf4 bl ba, rf5 ba] 82)).alloc (.cells #[.int .i64 0, .int .i64 0, .string ⟨#[]⟩, .slice none 0 0] 30) := ⟨_, rfl⟩
  have I0 := Lib.hid (item_begins h hW0)
  have hz0 : w.heap.size ≤ W0.heap.size := by rw [hW0]; simp; omega
  clear h
  obtain ⟨c1, c2, c3⟩ := I0.out.cells
  by_cases hc : hereN s a = 91
  · rw [if_pos hc]
    go_enter Tryz.func62, Tryz.ntmps62
    go_wp2_with fail
    rw [← hW0]
    clear hW0
    refine (skip_yes ae w0 bl s0 ba s a 91 _ I0.out.rt (eq_true_of hc)).mono ?_
    rintro e w1 ⟨rfl, hRT, hM⟩
    have I1 := Lib.hid (I0.out.call hRT hM)
    obtain ⟨d1, d2, d3⟩ := I1.out.cells
    have hz1 := hM.size
    clear hRT hM c1 c2 c3
    have HT := list_read ae w0 bl s0 ba s (stepN s a) w1 I1.out.rt
    have hfl := lstN_flat s (stepN s a)
    generalize lstN s (stepN s a) = A at *
    obtain ⟨⟨x, ok⟩, p⟩ := A
    unfold LstPost at HT ⊢
    dsimp only at HT hfl ⊢
    have HFL := Lib.hid hfl
    clear hfl
    go_wp2_with fail
    refine HT.mono ?_
    rintro e w2 ⟨⟨lv, rfl, hL, hF⟩, hRT, hM⟩
    obtain ⟨a3, c3, rfl, z3⟩ := hL.len
    have I2 := Lib.hid (I1.out.call hRT hM)
    have HL := Lib.hid (And.intro hL hF)
    have hz2 := hM.size
    clear hRT hM d1 d2 d3 hL hF HT
    obtain ⟨⟨y0, y1, y2, y3⟩, yf0, yf1, yf2, yf3⟩ := I2.out.res
    have hzz : w.heap.size + 1 < w2.heap.size := Kit.lt_of_cell y3
    have hw1 : w.heap.size + 1 < w1.heap.size := I1.out.rb.res.c.lt
    have HF := Lib.hid (I2.out.fin (.int .i64 x.k) (.int .i64 x.n) (.string x.s) (.slice a3 x.l.length c3))
    go_wp2
    refine bodyPost_ret (v := .tuple #[aggV x.k x.n x.s (.slice a3 x.l.length c3), .bool ok]) (by simp [results, Tryz.results62, go_sem, y0, y1, y2, y3]) rfl ?_
    refine ⟨⟨_, rfl, ?_, fun j hj => by have := HL.out.2 j hj; omega⟩, HF.out.1, HF.out.2⟩
    refine HL.out.1.keep1 HFL.out (fun j hj => ?_) (by simp)
    have h1 := HL.out.1.lt j hj
    have h2 := HL.out.2 j hj
    exact (end4b (w.heap.size + 1) w2 _ _ _ _).block j h1 (by omega)
  · rw [if_neg hc]
    go_enter Tryz.func62, Tryz.ntmps62
    go_wp2_with fail
    rw [← hW0]
    clear hW0
    refine (skip_no ae w0 bl s0 ba s a 91 _ I0.out.rt (eq_false_of hc)).mono ?_
    rintro e w1 ⟨rfl, hRT, hM⟩
    have I1 := Lib.hid (I0.out.call hRT hM)
    obtain ⟨d1, d2, d3⟩ := I1.out.cells
    clear hRT hM c1 c2 c3
    have HT := item_any ae w0 bl s0 ba s a w1 I1.out.rt
    have hfl := itemN_flat s a
    generalize itemN s a = A at *
    obtain ⟨⟨x, ok⟩, p⟩ := A
    unfold TxtPost at HT
    unfold LstPost
    dsimp only at HT hfl ⊢
    have HFL := Lib.hid hfl
    clear hfl
    go_wp2_with fail
    refine HT.mono ?_
    rintro e w2 ⟨rfl, hRT, hM⟩
    have I2 := Lib.hid (I1.out.call hRT hM)
    clear hRT hM d1 d2 d3 HT
    obtain ⟨⟨y0, y1, y2, y3⟩, yf0, yf1, yf2, yf3⟩ := I2.out.res
    have HF := Lib.hid (I2.out.fin (.int .i64 x.k) (.int .i64 x.n) (.string x.s) (.slice none 0 0))
    go_wp2
    refine bodyPost_ret (v := .tuple #[flatV x.k x.n x.s, .bool ok]) (by simp [results, Tryz.results62, go_sem, y0, y1, y2, y3]) rfl ?_
    exact ⟨⟨_, rfl, .inl ⟨HFL.out, rfl⟩, fun j hj => by cases hj⟩, HF.out.1, HF.out.2⟩
end Go.Proofs.YtmobnlofbopbeaaGreatDoor.Val
