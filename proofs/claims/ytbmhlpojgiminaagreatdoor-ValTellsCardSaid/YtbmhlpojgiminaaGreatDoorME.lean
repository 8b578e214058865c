/- Layer 3: append of a list of values that are no lists, on a row of its own. -/
import Derived.Test.YtbmhlpojgiminaaGreatDoorValFits
import Derived.Test.YtbmhlpojgiminaaGreatDoorValRight
import Derived.Test.YtbmhlpojgiminaaGreatDoorMD
import Derived.Deep.QuietTactic
namespace Go.Proofs.YtbmhlpojgiminaaGreatDoor.Val
open Go.RowKit
open Kit (ret_int ret_bool Moved)

attribute [local go_sem] Oper.semAt_some

theorem repL_nil2 {B : Nat} {w : World} {lv : Value} (h : RepL B w [] lv) : lv = .slice none 0 0 := by
  rcases h with ⟨_, h⟩ | ⟨_, _, _, _, h, _⟩
  · exact h
  · exact absurd rfl h
/-- The cells of a list of values without lists. -/
theorem repC_cells {B : Nat} {w : World} {b : Nat} : ∀ (l : List Vl) (o : Nat), (∀ x ∈ l, x.isFlat) → RepC B w b o l → w.rangeAt b o (l.flatMap cellsF)
  | [], _, _, _ => fun j v hv => by simp at hv
  | x :: r, o, hf, h => by
    rw [repC_cons] at h
    obtain ⟨⟨v, h1, h2⟩, h3⟩ := h
    obtain ⟨lv, rfl, hl⟩ := rep_of h1
    have hx : x.l = [] := hf x (by simp)
    rw [hx] at hl
    obtain rfl := repL_nil2 hl
    have h4 := repC_cells r (o + 4) (fun y hy => hf y (by simp [hy])) h3
    rw [List.flatMap_cons]
    intro j u hu
    by_cases hj : j < 4
    · rw [List.getElem?_append_left (by rw [cellsF_len]; exact hj)] at hu
      exact h2 j u hu
    · rw [List.getElem?_append_right (by rw [cellsF_len]; omega), cellsF_len] at hu
      have := h4 (j - 4) u hu
      rw [show o + 4 + (j - 4) = o + j by omega] at this
      exact this
theorem repL_slice {B : Nat} {w : World} {l : List Vl} {lv : Value} (hf : ∀ x ∈ l, x.isFlat) (h : RepL B w l lv) :
    (l = [] ∧ lv = .slice none 0 0) ∨ ∃ b o c, lv = .slice (some ⟨b, o, none⟩) l.length c ∧ ∀ j u, (l.flatMap cellsF)[j]? = some u → w.cell? ((⟨b, o, none⟩ : Addr).add j) = some u := by
  rcases h with h | ⟨b, o, c, _, _, h1, _, _, h3⟩
  · exact .inl h
  · refine .inr ⟨b, o, c, h1, fun j u hu => ?_⟩
    rw [Addr.add_mid]
    exact repC_cells l o hf h3 j u hu
theorem cellsFs_one (l : List Vl) : ∀ u ∈ l.flatMap cellsF, u.oneCell' = true := by
  intro u hu
  obtain ⟨x, _, h⟩ := List.mem_flatMap.1 hu
  exact cellsF_one x u h

/-- append on a row of its own, of a list of values without lists. -/
theorem run_append_flat {w : World} (base : Nat) (ty : TypeId) (i : TypeInfo) (hi : Tryz.prog.info? 30 = some i) (hz : i.zero = some (.agg zero4.toArray)) (hsize : i.size = 4) (hby : i.bytes = 56)
    (v : Value) (n : Nat) (xs : List Value) (hown : w.ownsRow base 30 4 v n xs) {B : Nat} {l : List Vl} {lv : Value} (hf : ∀ x ∈ l, x.isFlat) (hr : RepL B w l lv) (hn : n + l.length ≤ 1000000000000) (hbase : base ≤ w.heap.size) :
    ∃ v' w', (Builtin.append_ #[28, 28] ty #[v, lv]).run Tryz.prog w = .ok v' w' ∧ w'.ownsRow base 30 4 v' (n + l.length) (xs ++ l.flatMap cellsF) ∧ w.grownBy w' v.ownBlock ∧ (v' = .slice none 0 0 ↔ v = .slice none 0 0 ∧ l.length = 0) := by
  rcases repL_slice hf hr with ⟨rfl, rfl⟩ | ⟨b, o, c, rfl, hc⟩
  · refine ⟨v, w, run_append_owned_none (base := base) (size := 4) (ht := Tryz.underlying28) (hi := hi) (hown := hown) .., by simpa using hown, World.grownBy.refl _ _, by simp⟩
  · obtain ⟨v', w', h1, h2, h3, h4, _⟩ := run_append_own_at (P := Tryz.prog) w base 28 ty 30 i (.agg zero4.toArray) 4 56 Tryz.underlying28 hi hz hsize hby rfl (by decide) v n xs hown ⟨b, o, none⟩ l.length c (l.flatMap cellsF) (by rw [cellsFs_len]) hc (cellsFs_one l) (by unfold maxLen; omega) (by omega) hbase
    exact ⟨v', w', h1, h2, h3, h4⟩
theorem wpList_append_flat {w : World} {ops : Array Oper} {rest : List Oper} {o : Oper} {a : Act} {Q : Exit → Act → World → Prop} (hgd : o.guard = none) (s x : Operand)
    (ho : o.op = .call { callee := .builtin .append, args := #[s, x], argTypes := #[28, 28] }) (base : Nat) (i : TypeInfo) (hi : Tryz.prog.info? 30 = some i) (hz : i.zero = some (.agg zero4.toArray)) (hsize : i.size = 4) (hby : i.bytes = 56)
    (v : Value) (n : Nat) (xs : List Value) (hs : a.eval s = v) (hown : w.ownsRow base 30 4 v n xs) {B : Nat} {l : List Vl} {lv : Value} (hx : a.eval x = lv) (hf : ∀ x ∈ l, x.isFlat) (hr : RepL B w l lv) (hn : n + l.length ≤ 1000000000000) (hbase : base ≤ w.heap.size)
    (h : ∀ v' w', w'.ownsRow base 30 4 v' (n + l.length) (xs ++ l.flatMap cellsF) → w.grownBy w' v.ownBlock → (v' = .slice none 0 0 ↔ v = .slice none 0 0 ∧ l.length = 0) → wpList Tryz.prog ops Q rest (a.put o.dst v') w') :
    wpList Tryz.prog ops Q (o :: rest) a w := by
  refine wpList_plain hgd fun K hK => ?_
  obtain ⟨v', w', hr, h2, h3, h4⟩ := run_append_flat base o.type i hi hz hsize hby v n xs hown hf hr hn hbase
  unfold Oper.wp execOp
  simp only [ho, resolve, invoke, builtin, Sem.run_bind, Sem.run_pure, Result.andThen_ok, List.map_toArray, List.map_cons, List.map_nil, hs, hx, hr]
  exact hK _ _ (h v' w' h2 h3 h4)

end Go.Proofs.YtbmhlpojgiminaaGreatDoor.Val
/- Layer 3: the references of a value. -/
namespace Go.Proofs.YtbmhlpojgiminaaGreatDoor.Val
open Go.RowKit
open Kit (ret_int ret_bool Moved)

attribute [local go_sem] Oper.semAt_some

/-- The numbers of all values of a kind. -/
def numsL (K : Int) (l : List Vl) : List Int := (l.filter fun y => y.k == K).map (·.n)
theorem numsL_succ {K : Int} {l : List Vl} {k : Nat} {y : Vl} (h : l[k]? = some y) : numsL K (l.take (k + 1)) = if y.k == K then numsL K (l.take k) ++ [y.n] else numsL K (l.take k) := by
  obtain ⟨hk, he⟩ := List.getElem?_eq_some_iff.1 h
  unfold numsL
  rw [List.take_succ_eq_append_getElem hk, he, List.filter_append]
  cases hc : y.k == K
  · rw [if_neg (by simp)]; simp [hc]
  · rw [if_pos rfl]; simp [hc]
theorem numsL_len (K : Int) (l : List Vl) (k : Nat) : (numsL K (l.take k)).length ≤ k := by
  unfold numsL
  rw [List.length_map]
  have h1 := List.length_filter_le (fun y : Vl => y.k == K) (l.take k)
  rw [List.length_take] at h1
  omega
/-- The references of a kind of a value, none of a wrong one. -/
def refsV (K : Int) (x : Vl) : List Int := if rightV x then numsL K (x :: x.l) else []

/-- v is the list of numbers l. -/
def Nums (W : World) (l : List Int) (v : Value) : Prop := ∃ a c, v = .slice a l.length c ∧ l.length ≤ maxLen ∧ ∀ (i : Nat) (z : Int), l[i]? = some z → ∃ b o, a = some ⟨b, o, none⟩ ∧ b < W.heap.size ∧ W.cell? ⟨b, o + i, none⟩ = some (.int .i64 z)
theorem Nums.later {W W' : World} {l : List Int} {v : Value} (h : Nums W l v) (hB : Below W.heap.size W W') : Nums W' l v := by
  obtain ⟨a, c, h1, h2, h3⟩ := h
  refine ⟨a, c, h1, h2, fun i z hz => ?_⟩
  obtain ⟨b, o, e, hb, hc⟩ := h3 i z hz
  exact ⟨b, o, e, Nat.lt_of_lt_of_le hb hB.size, (hB.cell (p := ⟨b, o + i, none⟩) hb).trans hc⟩
abbrev cellsZ (l : List Int) : List Value := l.map (Value.int .i64)
theorem Nums.of {W : World} {B : Nat} {v : Value} {l : List Int} (h : W.ownsRow B 3 1 v l.length (cellsZ l)) (hm : l.length ≤ 1000) : Nums W l v := by
  rcases h.2 with ⟨h1, h2⟩ | ⟨g, cap, cur, h1, h2⟩
  · refine ⟨none, 0, by rw [h1, h2], by rw [h2]; exact Nat.zero_le _, fun i z hz => ?_⟩
    obtain rfl := List.eq_nil_of_length_eq_zero h2
    simp at hz
  · subst h1
    refine ⟨_, _, rfl, by unfold maxLen; omega, fun i z hz => ⟨g, 0, rfl, (h.lt g rfl).2, ?_⟩⟩
    have := h.cells (g := g) rfl i (.int .i64 z) (by rw [List.getElem?_map, hz]; rfl)
    rwa [Addr.add_mid] at this
theorem Nums.nil (W : World) : Nums W [] (.slice none 0 0) := ⟨none, 0, rfl, Nat.zero_le _, fun i z h => by simp at h⟩
theorem intInfo : (Tryz.prog.info? 3).map (fun i => (i.zero, i.size, i.bytes)) = some (some (.int .i64 0), 1, 8) := by kernel_rfl

/-- A row of numbers of its own, from W1 on. -/
structure NuJ (W1 : World) (zs : List Int) (out : Value) (W : World) : Prop where
  row : W.ownsRow W1.heap.size 3 1 out zs.length (cellsZ zs)
  below : Below W1.heap.size W1 W
theorem NuJ.later {W1 : World} {zs : List Int} {out : Value} {W W' : World} (h : NuJ W1 zs out W) (hB : Below W.heap.size W W') : NuJ W1 zs out W' :=
  ⟨Kit.ownsRow_kept h.row (fun j hj => hB.block j (h.row.lt j hj).2), h.below.trans (hB.mono h.below.size)⟩
theorem NuJ.slice {W1 : World} {zs : List Int} {out : Value} {W : World} (h : NuJ W1 zs out W) : ∃ a c, out = .slice a zs.length c := by
  rcases h.row.2 with ⟨h1, h2⟩ | ⟨g, cap, cur, h1, _⟩
  · exact ⟨none, 0, by rw [h1, h2]⟩
  · exact ⟨_, _, h1⟩
theorem NuJ.push {W1 : World} {zs : List Int} {z : Int} {out out' : Value} {W W' : World} (h : NuJ W1 zs out W) (hg : W.grownBy W' out.ownBlock) (hown : W'.ownsRow W1.heap.size 3 1 out' (zs.length + 1) (cellsZ zs ++ [.int .i64 z])) : NuJ W1 (zs ++ [z]) out' W' := by
  refine ⟨?_, h.below.trans ((Kit.Moved.of_grownBy hg).below (fun j hj => (h.row.lt j hj).1) h.below.size)⟩
  rw [List.length_append, List.length_singleton]
  unfold cellsZ at hown ⊢
  rw [List.map_append]
  exact hown

/-- The cells of a value, and of its list, one behind the other. -/
theorem allN_at {x : Vl} {lv : Value} {k : Nat} {y : Vl} (hy : (x :: x.l)[k]? = some y) (hlv : ∃ a n c, lv = .slice a n c) : ∃ a n c, ∀ j u, (cellsV y.k y.n y.s (.slice a n c))[j]? = some u → (cellsV x.k x.n x.s lv ++ x.l.flatMap cellsF)[k * 4 + j]? = some u := by
  cases k with
  | zero =>
    obtain ⟨a, n, c, rfl⟩ := hlv
    simp only [List.getElem?_cons_zero, Option.some.injEq] at hy
    subst hy
    refine ⟨a, n, c, fun j u hu => ?_⟩
    have hj : j < 4 := (List.getElem?_eq_some_iff.1 hu).1
    rw [Nat.zero_mul, Nat.zero_add, List.getElem?_append_left (by simpa using hj)]
    exact hu
  | succ k =>
    rw [List.getElem?_cons_succ] at hy
    refine ⟨none, 0, 0, fun j u hu => ?_⟩
    have hg : ∀ (l : List Vl) (i : Nat), l[i]? = some y → (l.flatMap cellsF)[i * 4 + j]? = some u := by
      intro l
      induction l with
      | nil => intro i h; simp at h
      | cons z r ih =>
        intro i h
        have hj : j < 4 := (List.getElem?_eq_some_iff.1 hu).1
        cases i with
        | zero =>
          simp only [List.getElem?_cons_zero, Option.some.injEq] at h
          subst h
          rw [List.flatMap_cons, List.getElem?_append_left (by rw [cellsF_len]; omega), Nat.zero_mul, Nat.zero_add]
          exact hu
        | succ i =>
          rw [List.flatMap_cons, List.getElem?_append_right (by rw [cellsF_len]; omega), cellsF_len, show (i + 1) * 4 + j - 4 = i * 4 + j by omega]
          exact ih i (by simpa using h)
    have h1 : (cellsV x.k x.n x.s lv).length = 4 := rfl
    rw [List.getElem?_append_right (by rw [h1]; omega), h1, show (k + 1) * 4 + j - 4 = k * 4 + j by omega]
    exact hg x.l k hy
/-- What is put together of a value and its list. -/
def AllAt (W : World) (x : Vl) (g : Nat) : Prop := ∀ (k : Nat) (y : Vl), (x :: x.l)[k]? = some y → ∃ a n c, W.cell? ⟨g, k * 4, none⟩ = some (.int .i64 y.k) ∧ W.cell? ⟨g, k * 4 + 1, none⟩ = some (.int .i64 y.n) ∧ W.cell? ⟨g, k * 4 + 2, none⟩ = some (.string y.s) ∧ W.cell? ⟨g, k * 4 + 3, none⟩ = some (.slice a n c)
theorem AllAt.later {W W' : World} {x : Vl} {g : Nat} (h : AllAt W x g) (hB : Below W.heap.size W W') : AllAt W' x g := fun k y hy => by
  obtain ⟨a, n, c, h1, h2, h3, h4⟩ := h k y hy
  exact ⟨a, n, c, (hB.cell (p := ⟨g, k * 4, none⟩) (Kit.lt_of_cell h1)).trans h1, (hB.cell (p := ⟨g, k * 4 + 1, none⟩) (Kit.lt_of_cell h2)).trans h2, (hB.cell (p := ⟨g, k * 4 + 2, none⟩) (Kit.lt_of_cell h3)).trans h3, (hB.cell (p := ⟨g, k * 4 + 3, none⟩) (Kit.lt_of_cell h4)).trans h4⟩
theorem AllAt.of {B : Nat} {W : World} {x : Vl} {lv v : Value} {n : Nat} (hlv : ∃ a n c, lv = .slice a n c) (hn : 0 < n) (h : W.ownsRow B 30 4 v n (cellsV x.k x.n x.s lv ++ x.l.flatMap cellsF)) : ∃ g c, v = .slice (some ⟨g, 0, none⟩) n c ∧ AllAt W x g := by
  rcases h.2 with ⟨_, h2⟩ | ⟨g, cap, cur, h1, h2⟩
  · omega
  · subst h1
    refine ⟨g, cap, rfl, fun k y hy => ?_⟩
    obtain ⟨a, m, c, hc⟩ := allN_at hy hlv
    have hh := fun j u hu => h.cells (g := g) rfl (k * 4 + j) u (hc j u hu)
    simp only [Addr.add_mid, Nat.zero_add] at hh
    exact ⟨a, m, c, hh 0 _ rfl, hh 1 _ rfl, hh 2 _ rfl, hh 3 _ rfl⟩
theorem rightV_flat {x : Vl} (hx : rightV x = true) : ∀ y ∈ x.l, y.isFlat := by
  by_cases h5 : x.k = 5
  · obtain ⟨_, _, hall⟩ := rightV_list hx h5
    intro y hy
    rcases rightF_cases (hall y hy) with rfl | ⟨_, _, rfl, _⟩ | ⟨_, rfl, _⟩ <;> rfl
  · have hf : rightF x = true := by unfold rightV at hx; rwa [if_neg h5] at hx
    have hxl : x.l = [] := by
      rcases rightF_cases hf with rfl | ⟨_, _, rfl, _⟩ | ⟨_, rfl, _⟩ <;> rfl
    intro y hy
    rw [hxl] at hy; cases hy
theorem rightV_len {x : Vl} (hx : rightV x = true) : x.l.length ≤ 12 := by
  by_cases h5 : x.k = 5
  · exact (rightV_list hx h5).2.1
  · have hf : rightF x = true := by unfold rightV at hx; rwa [if_neg h5] at hx
    have hxl : x.l = [] := by
      rcases rightF_cases hf with rfl | ⟨_, _, rfl, _⟩ | ⟨_, rfl, _⟩ <;> rfl
    rw [hxl]; exact Nat.zero_le _

set_option maxRecDepth 100000 in
set_option maxHeartbeats 4000000 in
theorem numbersOf_any (K : Int) (x : Vl) (hf : x.fits) (ae : Addr) (w : World) (v : Value) (hE : Env ae w) (hr : Rep w.heap.size w x v) :
    Calls Tryz.prog 41 #[.int .i64 K, v] w fun e w' => (∃ lv, e = .returned lv ∧ Nums w' (refsV K x) lv) ∧ Below w.heap.size w w' := by
  obtain ⟨lv, rfl, hl⟩ := rep_of hr
  obtain ⟨a, c, rfl, -⟩ := hl.len
  have B0 := Lib.hid (Kit.below_alloc w (.cells #[.int .i64 x.k, .int .i64 x.n, .string x.s, .slice a x.l.length c] 30))
  have A0 := Lib.hid (Kit.box4_new w (.int .i64 x.k) (.int .i64 x.n) (.string x.s) (.slice a x.l.length c) 30)
  have HR := Lib.hid (right_any ae x hf _ _ _ (Nat.le_refl _) (hE.below B0.out) ((hr.below B0.out (Nat.le_refl _)).mono B0.out.size))
  have HL := Lib.hid hl
  obtain ⟨p1, p2, p3, p4⟩ := A0.out
  clear hE hr hl hf
  go_enter Tryz.func41, Tryz.ntmps41
  go_wp2_with fail
  refine HR.out.mono ?_; rintro e w1 ⟨rfl, hB1⟩
  have B1 := Lib.hid (B0.out.trans (hB1.mono B0.out.size))
  obtain ⟨q1, q2, q3, q4⟩ := A0.out.below hB1 A0.out.lt
  clear hB1 p1 p2 p3 p4 A0 HR
  cases hx : rightV x
  · have HN := Lib.hid (show refsV K x = [] by unfold refsV; rw [if_neg (by rw [hx]; simp)])
    clear hx
    go_wp2
    go_ret
    exact ⟨⟨_, rfl, by rw [HN.out]; exact Nums.nil _⟩, B1.out⟩
  · have HN := Lib.hid (show refsV K x = numsL K (x :: x.l) by unfold refsV; rw [if_pos hx])
    have HF := Lib.hid (rightV_flat hx)
    have h12 := rightV_len hx
    obtain ⟨i0, hi0, hz0, hz1, hz2⟩ := info_parts vInfo3
    obtain ⟨i1, hj0, hk0, hk1, hk2⟩ := info_parts intInfo
    have R1 := Lib.hid (World.ownsRow_lit (base := w1.heap.size) (e := 30) (size := 4) w1 #[.int .i64 x.k, .int .i64 x.n, .string x.s, .slice a x.l.length c] 1 (Nat.le_refl _) (by unfold maxLen; decide) rfl)
    have L1 := Lib.hid ((HL.out.below (B1.out.trans ((Kit.below_alloc w1 (.cells #[.int .i64 x.k, .int .i64 x.n, .string x.s, .slice a x.l.length c] 30)).mono B1.out.size)) (Nat.le_refl _)))
    have hsz : w1.heap.size ≤ (w1.alloc (.cells #[.int .i64 x.k, .int .i64 x.n, .string x.s, .slice a x.l.length c] 30)).heap.size := by simp
    have s4 := Kit.cell_kept (.cells #[.int .i64 x.k, .int .i64 x.n, .string x.s, .slice a x.l.length c] 30) q4
    clear hx
    go_upto_region 5 with (at_builtin; refine wpList_append_flat rfl _ _ rfl w1.heap.size i0 hi0 hz0 hz1 hz2 _ _ _ rfl R1.out rfl HF.out L1.out (by omega) hsz ?_; intro v6 W6 hown6 hg6 hn6; obtain ⟨g, gc, rfl, hA⟩ := AllAt.of ⟨_, _, _, rfl⟩ (by omega) hown6; have A6 := Lib.hid hA; have B6 := Lib.hid (B1.out.trans (((Kit.below_alloc w1 _).trans ((Kit.Moved.of_grownBy hg6).below (fun j hj => (R1.out.lt j hj).1) hsz)).mono B1.out.size)); clear hown6 hg6 hn6 hA)
    clear R1 L1 hsz q1 q2 q3 q4 s4
    have N0 : Hid (NuJ W6 [] (.slice none 0 0) W6) := Lib.hid ⟨World.ownsRow_nil _ _ _ _, Below.refl _ _⟩
    go_wp2_with fail
    go_loopw [5, 17] (fun ov i wr => ∃ k : Nat, k ≤ 1 + x.l.length ∧ i = .int .i64 k ∧ NuJ W6 (numsL K ((x :: x.l).take k)) ov wr) (fun _ i _ => 1 + x.l.length - (intOf i).toNat)
    case atStart => exact ⟨0, by omega, rfl, N0.out⟩
    case round =>
      obtain ⟨k, hk, rfl, hJ⟩ := hrel
      obtain ⟨oa, oc, rfl⟩ := hJ.slice
      have J1 := Lib.hid hJ
      clear N0 hJ
      by_cases hlt : k < 1 + x.l.length
      · have j1 : (k : Int) < ((1 + x.l.length : Nat) : Int) := by omega
        obtain ⟨y, hy⟩ : ∃ y, (x :: x.l)[k]? = some y := ⟨_, List.getElem?_eq_getElem (by rw [List.length_cons]; omega)⟩
        obtain ⟨a2, n2, c2, u1, u2, u3, u4⟩ := (A6.out.later J1.out.below) k y hy
        have hzl := numsL_len K (x :: x.l) k
        have HS := Lib.hid (numsL_succ (K := K) hy)
        have J2 := Lib.hid (J1.out.later (Kit.below_alloc wr (.cells #[.int .i64 y.k, .int .i64 y.n, .string y.s, .slice a2 n2 c2] 30)))
        clear hy J1
        obtain ⟨zs, hzs⟩ : ∃ zs, zs = numsL K ((x :: x.l).take k) := ⟨_, rfl⟩
        rw [← hzs] at HS J2 hzl ⊢
        clear hzs
        cases hc : y.k == K
        · have HQ := Lib.hid (show numsL K ((x :: x.l).take (k + 1)) = zs by rw [HS.out, hc]; rfl)
          go_wp2
          go_roundw
          case rel => exact ⟨k + 1, by omega, by go_num, by rw [HQ.out]; exact J2.out⟩
          case measure => simp [intOf]; omega
        · have HQ := Lib.hid (show numsL K ((x :: x.l).take (k + 1)) = zs ++ [y.n] by rw [HS.out, hc]; rfl)
          have t1 := Kit.cell_new wr #[.int .i64 y.k, .int .i64 y.n, .string y.s, .slice a2 n2 c2] 30 1 rfl
          go_upto_region 8 with fail
          clear u1 u2 u3 u4
          generalize wr.alloc (.cells #[.int .i64 y.k, .int .i64 y.n, .string y.s, .slice a2 n2 c2] 30) = W7 at *
          have J3 := Lib.hid (J2.out.later (Kit.below_alloc W7 (.cells #[.int .i64 y.n] 3)))
          have C8 := Lib.hid (show ∀ (j : Nat) (u : Value), ([.int .i64 y.n] : List Value)[j]? = some u → (W7.alloc (.cells #[.int .i64 y.n] 3)).cell? ((⟨W7.heap.size, 0, none⟩ : Addr).add j) = some u from fun j u hu => by
            rw [Addr.add_mid]
            exact Kit.cell_new W7 _ _ (0 + j) (by rw [Nat.zero_add, ← Array.getElem?_toList]; exact hu))
          have O8 := Lib.hid (show ∀ u ∈ ([.int .i64 y.n] : List Value), u.oneCell' = true from fun u hu => by rw [List.mem_singleton] at hu; subst hu; rfl)
          clear J2
          go_upto_region 9 with (at_builtin; refine wpList_append_own_at _ rfl _ _ 38 rfl W6.heap.size 3 i1 (.int .i64 0) 1 8 Tryz.underlying38 hj0 hk0 hk1 hk2 rfl (by decide) _ _ _ rfl J3.out.row ⟨W7.heap.size, 0, none⟩ 1 1 [.int .i64 y.n] rfl rfl C8.out O8.out (by unfold maxLen; omega) (by omega) J3.out.below.size ?_; intro v8 W8 hown8 hg8 hn8 hat8; have J4 := Lib.hid (J3.out.push hg8 hown8); clear hown8 hg8 hn8 hat8 J3 C8)
          go_wp2
          go_roundw
          case rel => exact ⟨k + 1, by omega, by go_num, by rw [HQ.out]; exact J4.out⟩
          case measure => simp [intOf]; omega
      · have hkk : k = 1 + x.l.length := by omega
        subst hkk
        have j1 : ¬ ((1 + x.l.length : Nat) : Int) < 1 + (x.l.length : Int) := by omega
        have HQ := Lib.hid (show Nums wr (refsV K x) (.slice oa (numsL K ((x :: x.l).take (1 + x.l.length))).length oc) by
          have h := Nums.of J1.out.row (by have := numsL_len K (x :: x.l) (1 + x.l.length); omega)
          rw [HN.out]
          rw [List.take_of_length_le (by rw [List.length_cons]; omega)] at h ⊢
          exact h)
        go_wp2
        go_ret
        exact ⟨⟨_, rfl, HQ.out⟩, B6.out.trans (J1.out.below.mono B6.out.size)⟩
theorem Refs_any (x : Vl) (hf : x.fits) (ae : Addr) (w : World) (v : Value) (hE : Env ae w) (hr : Rep w.heap.size w x v) :
    Calls Tryz.prog 14 #[v] w fun e w' => (∃ lv, e = .returned lv ∧ Nums w' (refsV 3 x) lv) ∧ Below w.heap.size w w' := by
  obtain ⟨lv, rfl, hl⟩ := rep_of hr
  obtain ⟨a, c, rfl, -⟩ := hl.len
  have B0 := Lib.hid (Kit.below_alloc w (.cells #[.int .i64 x.k, .int .i64 x.n, .string x.s, .slice a x.l.length c] 30))
  have A0 := Lib.hid (Kit.box4_new w (.int .i64 x.k) (.int .i64 x.n) (.string x.s) (.slice a x.l.length c) 30)
  have HR := Lib.hid (numbersOf_any 3 x hf ae _ _ (hE.below B0.out) ((hr.below B0.out (Nat.le_refl _)).mono B0.out.size))
  obtain ⟨p1, p2, p3, p4⟩ := A0.out
  clear hE hr hl hf
  go_enter Tryz.func14, Tryz.ntmps14
  go_wp2_with fail
  refine HR.out.mono ?_; rintro e w1 ⟨⟨lv, rfl, hn⟩, hB1⟩
  go_wp2
  go_ret
  exact ⟨⟨_, rfl, hn⟩, B0.out.trans (hB1.mono B0.out.size)⟩
theorem Weaks_any (x : Vl) (hf : x.fits) (ae : Addr) (w : World) (v : Value) (hE : Env ae w) (hr : Rep w.heap.size w x v) :
    Calls Tryz.prog 16 #[v] w fun e w' => (∃ lv, e = .returned lv ∧ Nums w' (refsV 4 x) lv) ∧ Below w.heap.size w w' := by
  obtain ⟨lv, rfl, hl⟩ := rep_of hr
  obtain ⟨a, c, rfl, -⟩ := hl.len
  have B0 := Lib.hid (Kit.below_alloc w (.cells #[.int .i64 x.k, .int .i64 x.n, .string x.s, .slice a x.l.length c] 30))
  have A0 := Lib.hid (Kit.box4_new w (.int .i64 x.k) (.int .i64 x.n) (.string x.s) (.slice a x.l.length c) 30)
  have HR := Lib.hid (numbersOf_any 4 x hf ae _ _ (hE.below B0.out) ((hr.below B0.out (Nat.le_refl _)).mono B0.out.size))
  obtain ⟨p1, p2, p3, p4⟩ := A0.out
  clear hE hr hl hf
  go_enter Tryz.func16, Tryz.ntmps16
  go_wp2_with fail
  refine HR.out.mono ?_; rintro e w1 ⟨⟨lv, rfl, hn⟩, hB1⟩
  go_wp2
  go_ret
  exact ⟨⟨_, rfl, hn⟩, B0.out.trans (hB1.mono B0.out.size)⟩
end Go.Proofs.YtbmhlpojgiminaaGreatDoor.Val
