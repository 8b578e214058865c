/- Layer 4's laws: what they share: pick, ClassOf. -/
import Derived.Test.YtmobnlofbopbeaaGreatDoorClassRef
import Derived.Test.YtmobnlofbopbeaaGreatDoorMH
import Derived.Test.YtmobnlofbopbeaaGreatDoorPick
import Derived.Test.YtmobnlofbopbeaaGreatDoorBox
import Derived.Deep.RegionHeld3
import Derived.Deep.RegionHeld
import Derived.WalkKit
import Derived.Outline
import Derived.Deep.Cut
import Derived.Deep.RegionLaw
namespace Go.Proofs.YtmobnlofbopbeaaGreatDoor.Cls
open Go.RowKit
open Kit (ret_int ret_bool Moved)
open Val (Env flat bs Vl Rep RepL pickN pickN_lt)

attribute [local go_sem] Oper.semAt_some

set_option maxHeartbeats 1000000 in
theorem pick4_any (c : Int) (h1 : -9223372036854775808 ≤ c) (h2 : c ≤ 9223372036854775807) (n : Nat) (hn : 0 < n) (hn2 : n ≤ 4000000000000000) (w : World) :
    Calls Tryz.prog 72 #[.int .i64 c, .int .i64 (n : Int)] w fun e w' => e = .returned (.int .i64 (pickN c n : Int)) ∧ w = w' := by
  have hn0 : ((n : Int) == 0) = false := beq_eq_false_iff_ne.2 (by omega)
  unfold pickN
  by_cases hc : c < 0
  · rw [if_pos hc]
    obtain ⟨m, hm⟩ : ∃ m : Nat, -(c + 1) = (m : Int) := ⟨(-(c + 1)).toNat, by omega⟩
    have e1 : IntKind.i64.wrap (c + 1) = c + 1 := by rw [IntKind.wrap_i64]; omega
    have e2 : IntKind.i64.wrap (-(c + 1)) = (m : Int) := by rw [IntKind.wrap_i64]; omega
    have e4 : (-(c + 1)).toNat = m := by omega
    rw [e4]
    have hlt : m % n < n := Nat.mod_lt _ hn
    have hM := Lib.hid hm
    clear hm e4
    go_enter Tryz.func72, Tryz.ntmps72
    go_wp2
    go_ret
    exact ⟨Kit.ret_int (by push_cast; rfl), rfl⟩
  · rw [if_neg hc]
    obtain ⟨m, rfl⟩ := Int.eq_ofNat_of_zero_le (Int.not_lt.1 hc)
    have hlt : m % n < n := Nat.mod_lt _ hn
    go_enter Tryz.func72, Tryz.ntmps72
    go_wp2
    go_ret
    exact ⟨Kit.ret_int (by push_cast; rfl), rfl⟩

/-- Raw numbers of a field, of a class. -/
structure FRaw where
  n : Int
  k : Int
  o : Int
  ix : Bool
structure FRaw.Ok (x : FRaw) : Prop where
  n1 : -9223372036854775808 ≤ x.n
  n2 : x.n ≤ 9223372036854775807
  k1 : -9223372036854775808 ≤ x.k
  k2 : x.k ≤ 9223372036854775807
  o1 : -9223372036854775808 ≤ x.o
  o2 : x.o ≤ 9223372036854775807
structure Raw4 where
  n : Int
  l : List FRaw
structure Raw4.Ok (x : Raw4) : Prop where
  n1 : -9223372036854775808 ≤ x.n
  n2 : x.n ≤ 9223372036854775807
  l : ∀ y ∈ x.l, y.Ok
/-- Where a list of raw fields lies. -/
def FRawL (w : World) (l : List FRaw) (lv : Value) : Prop :=
  (l = [] ∧ ∃ a c, lv = .slice a 0 c) ∨ ∃ b o c, lv = .slice (some ⟨b, o, none⟩) l.length c ∧ l.length ≤ maxLen ∧ ∀ (i : Nat) (x : FRaw), l[i]? = some x →
    w.cell? ⟨b, o + i * 4, none⟩ = some (.int .i64 x.n) ∧ w.cell? ⟨b, o + i * 4 + 1, none⟩ = some (.int .i64 x.k) ∧ w.cell? ⟨b, o + i * 4 + 2, none⟩ = some (.int .i64 x.o) ∧ w.cell? ⟨b, o + i * 4 + 3, none⟩ = some (.bool x.ix)
theorem FRawL.below {w w' : World} {l : List FRaw} {lv : Value} (h : FRawL w l lv) (hB : Below w.heap.size w w') : FRawL w' l lv := by
  rcases h with h | ⟨b, o, c, h1, h2, h3⟩
  · exact .inl h
  · refine .inr ⟨b, o, c, h1, h2, fun i x hx => ?_⟩
    obtain ⟨q1, q2, q3, q4⟩ := h3 i x hx
    exact ⟨(hB.cell (p := ⟨b, _, none⟩) (Kit.lt_of_cell q1)).trans q1, (hB.cell (p := ⟨b, _, none⟩) (Kit.lt_of_cell q2)).trans q2, (hB.cell (p := ⟨b, _, none⟩) (Kit.lt_of_cell q3)).trans q3, (hB.cell (p := ⟨b, _, none⟩) (Kit.lt_of_cell q4)).trans q4⟩
theorem FRawL.len {w : World} {l : List FRaw} {lv : Value} (h : FRawL w l lv) : ∃ a c, lv = .slice a l.length c ∧ l.length ≤ maxLen := by
  rcases h with ⟨rfl, a, c, h⟩ | ⟨b, o, c, h, h2, _⟩
  · exact ⟨a, c, h, Nat.zero_le _⟩
  · exact ⟨_, c, h, h2⟩

/-- The names that there are. -/
def nameN (i : Nat) : ByteArray := if i = 0 then ⟨#[97]⟩ else if i = 1 then ⟨#[98, 50]⟩ else if i = 2 then ⟨#[110, 97, 109, 101]⟩ else if i = 3 then ⟨#[110, 101, 120, 116, 95, 111, 110, 101]⟩ else if i = 4 then ⟨#[107, 105, 100, 115]⟩ else ⟨#[120]⟩
def classN (i : Nat) : ByteArray := if i = 0 then ⟨#[110, 111, 100, 101]⟩ else if i = 1 then ⟨#[105, 116, 101, 109]⟩ else if i = 2 then ⟨#[117, 115, 101, 114]⟩ else if i = 3 then ⟨#[112, 97, 103, 101, 95, 49]⟩ else if i = 4 then ⟨#[108, 101, 97, 102]⟩ else ⟨#[113]⟩
def kindOf (r : FRaw) : Int := 1 + (pickN r.k 5 : Int)
def fieldOf (r : FRaw) : Fd := ⟨nameN (pickN r.n 6), kindOf r, if kindOf r = 5 then 1 + (pickN r.o 4 : Int) else 0, r.ix && decide (kindOf r ≤ 3)⟩
def addF (l : List Fd) (f : Fd) : List Fd := if fieldAt l f.nm < 0 then l ++ [f] else l
/-- The fields of the first k raw ones. -/
def fieldsK (rs : List FRaw) (k : Nat) : List Fd := (rs.take k).foldl (fun l r => addF l (fieldOf r)) []
theorem fieldsK_succ {rs : List FRaw} {k : Nat} {r : FRaw} (h : rs[k]? = some r) : fieldsK rs (k + 1) = addF (fieldsK rs k) (fieldOf r) := by
  unfold fieldsK
  rw [List.take_add_one, h, List.foldl_append]
  rfl
theorem fieldsK_len (rs : List FRaw) : ∀ k, (fieldsK rs k).length ≤ k
  | 0 => by simp [fieldsK]
  | k + 1 => by
    have ih := fieldsK_len rs k
    cases h : rs[k]? with
    | none =>
      have : fieldsK rs (k + 1) = fieldsK rs k := by unfold fieldsK; rw [List.take_add_one, h]; simp
      rw [this]; omega
    | some r =>
      rw [fieldsK_succ h]
      unfold addF
      split
      · simp; omega
      · omega
theorem fieldsK_end {rs : List FRaw} {k : Nat} (h6 : k ≤ 6) (h : rs.length ≤ k ∨ k = 6) : fieldsK rs k = fieldsK rs 6 := by
  rcases h with h | rfl
  · unfold fieldsK
    rw [List.take_of_length_le h, List.take_of_length_le (by omega)]
  · rfl
/-- Of raw numbers, a class. -/
def classOf (x : Raw4) : Cl := ⟨classN (pickN x.n 6), fieldsK x.l 6⟩

/-- What lies in memory while a class is made. -/
structure OfJ (w : World) (x : Raw4) (xlv : Value) (nm : ByteArray) (bn bc : Nat) (k : Nat) (lv : Value) (W : World) : Prop where
  row : W.ownsRow (bc + 1) 94 4 lv (fieldsK x.l k).length ((fieldsK x.l k).flatMap cellsFd)
  c0 : W.cell? ⟨bc, 0, none⟩ = some (.string nm)
  c1 : W.cell? ⟨bc, 1, none⟩ = some lv
  cf : ∀ i, W.frozen? ⟨bc, i, none⟩ = false
  r0 : W.cell? ⟨w.heap.size + 1, 0, none⟩ = some (.string ⟨#[]⟩)
  r1 : W.cell? ⟨w.heap.size + 1, 1, none⟩ = some (.slice none 0 0)
  rf : ∀ i, W.frozen? ⟨w.heap.size + 1, i, none⟩ = false
  xb : W.cell? ⟨w.heap.size, 1, none⟩ = some xlv
  nms : ∀ i, i < 6 → W.cell? ⟨bn, i, none⟩ = some (.string (nameN i))
  below : Below w.heap.size w W
  lt1 : w.heap.size + 1 < bn
  lt2 : bn < bc
  lt3 : bc < W.heap.size

theorem up4 (w : World) (a b c d e : Obj) : Below w.heap.size w (((((w.alloc a).alloc b).alloc c).alloc d).alloc e) :=
  ((((Kit.below_alloc w a).trans ((Kit.below_alloc _ b).mono (by simp))).trans ((Kit.below_alloc _ c).mono (by simp; omega))).trans ((Kit.below_alloc _ d).mono (by simp; omega))).trans ((Kit.below_alloc _ e).mono (by simp; omega))
theorem OfJ.later {w : World} {x : Raw4} {xlv : Value} {nm : ByteArray} {bn bc k : Nat} {lv : Value} {W W' : World} (h : OfJ w x xlv nm bn bc k lv W) (hB : Below W.heap.size W W') : OfJ w x xlv nm bn bc k lv W' := by
  have h1 := h.lt1
  have h2 := h.lt2
  have h3 := h.lt3
  have hz := hB.size
  exact { h with
    row := Kit.ownsRow_kept h.row fun j hj => hB.block j (h.row.lt j hj).2
    c0 := (hB.cell (p := ⟨bc, 0, none⟩) h3).trans h.c0
    c1 := (hB.cell (p := ⟨bc, 1, none⟩) h3).trans h.c1
    cf := fun i => (hB.frozen (p := ⟨bc, i, none⟩) h3).trans (h.cf i)
    r0 := (hB.cell (p := ⟨w.heap.size + 1, 0, none⟩) (by dsimp only; omega)).trans h.r0
    r1 := (hB.cell (p := ⟨w.heap.size + 1, 1, none⟩) (by dsimp only; omega)).trans h.r1
    rf := fun i => (hB.frozen (p := ⟨w.heap.size + 1, i, none⟩) (by dsimp only; omega)).trans (h.rf i)
    xb := (hB.cell (p := ⟨w.heap.size, 1, none⟩) (by dsimp only; omega)).trans h.xb
    nms := fun i hi => (hB.cell (p := ⟨bn, i, none⟩) (by dsimp only; omega)).trans (h.nms i hi)
    below := h.below.trans (hB.mono h.below.size)
    lt3 := by omega }
/-- A field more. -/
theorem OfJ.more {w : World} {x : Raw4} {xlv : Value} {nm : ByteArray} {bn bc k : Nat} {lv lv' : Value} {W W' : World} (h : OfJ w x xlv nm bn bc k lv W) (hg : W.grownBy W' lv.ownBlock) (hrow : W'.ownsRow (bc + 1) 94 4 lv' (fieldsK x.l (k + 1)).length ((fieldsK x.l (k + 1)).flatMap cellsFd)) : OfJ w x xlv nm bn bc (k + 1) lv' (W'.setCell ⟨bc, 1, none⟩ lv') := by
  have h1 := h.lt1
  have h2 := h.lt2
  have h3 := h.lt3
  have hm : Moved (fun j => bc < j) W W' := (Kit.Moved.of_grownBy hg).mono fun j _ hj => by have := (h.row.lt j hj).1; omega
  have hz := hm.size
  have hc1 := cell_moved hm h.c1 (by simp)
  have hs : Moved (fun j => j = bc) W' (W'.setCell ⟨bc, 1, none⟩ lv') := Kit.Moved.setCell _ _ _ _ rfl
  have hz2 := hs.size
  exact {
    row := Kit.ownsRow_kept hrow fun j hj => hs.block j (hrow.lt j hj).2 (by have := (hrow.lt j hj).1; omega)
    c0 := by rw [World.cell?_setCell_other _ _ _ _ (by simp)]; exact cell_moved hm h.c0 (by simp)
    c1 := World.cell?_setCell_same _ _ _ hc1
    cf := fun i => by rw [World.frozen?_setCell]; exact (frozen_moved hm (a := ⟨bc, i, none⟩) h3 (by simp)).trans (h.cf i)
    r0 := cell_moved hs (cell_moved hm h.r0 (by dsimp only; omega)) (by dsimp only; omega)
    r1 := cell_moved hs (cell_moved hm h.r1 (by dsimp only; omega)) (by dsimp only; omega)
    rf := fun i => by rw [World.frozen?_setCell]; exact (frozen_moved hm (a := ⟨w.heap.size + 1, i, none⟩) (by dsimp only; omega) (by dsimp only; omega)).trans (h.rf i)
    xb := cell_moved hs (cell_moved hm h.xb (by dsimp only; omega)) (by dsimp only; omega)
    nms := fun i hi => cell_moved hs (cell_moved hm (h.nms i hi) (by dsimp only; omega)) (by dsimp only; omega)
    below := (h.below.trans (hm.below (fun j hj => by omega) (by have := h.below.size; omega))).trans (hs.below (fun j hj => by omega) (by have := h.below.size; omega))
    lt1 := h1
    lt2 := h2
    lt3 := by omega }
theorem boxF_put4 {W : World} {b : Nat} {u0 u1 u2 u3 : Value} (h : Val.BoxF W b u0 u1 u2 u3) (v0 v1 v2 v3 : Value) : Val.BoxF ((((W.setCell ⟨b, 0, none⟩ v0).setCell ⟨b, 1, none⟩ v1).setCell ⟨b, 2, none⟩ v2).setCell ⟨b, 3, none⟩ v3) b v0 v1 v2 v3 := by
  obtain ⟨h0, h1, h2, h3⟩ := h.c
  refine ⟨⟨?_, ?_, ?_, ?_⟩, fun i => ?_⟩
  · simp [go_sem, h0]
  · simp [go_sem, h1]
  · simp [go_sem, h2]
  · simp [go_sem, h3]
  · simp only [World.frozen?_setCell]; exact h.f i
theorem OfJ.same {w : World} {x : Raw4} {xlv : Value} {nm : ByteArray} {bn bc k : Nat} {lv : Value} {W : World} (h : OfJ w x xlv nm bn bc k lv W) (he : fieldsK x.l (k + 1) = fieldsK x.l k) : OfJ w x xlv nm bn bc (k + 1) lv W :=
  { h with row := by rw [he]; exact h.row }
abbrev namesV : Array Value := #[.string ⟨#[97]⟩, .string ⟨#[98, 50]⟩, .string ⟨#[110, 97, 109, 101]⟩, .string ⟨#[110, 101, 120, 116, 95, 111, 110, 101]⟩, .string ⟨#[107, 105, 100, 115]⟩, .string ⟨#[120]⟩]
theorem OfJ.begins (w : World) (x : Raw4) (xlv : Value) (nm : ByteArray) (cs : Array Value) (T : TypeId) : OfJ w x xlv nm (w.heap.size + 1 + 1) (w.heap.size + 1 + 1 + 1 + 1) 0 (.slice none 0 0)
    (((((w.alloc (.cells #[.int .i64 x.n, xlv] 53)).alloc (.cells #[.string ⟨#[]⟩, .slice none 0 0] 56)).alloc (.cells namesV 9)).alloc (.cells cs T)).alloc (.cells #[.string nm, .slice none 0 0] 56)) := by
  have a0 := Kit.cell_new w #[.int .i64 x.n, xlv] 53 1 rfl
  have b0 := Kit.cell_new (w.alloc (.cells #[.int .i64 x.n, xlv] 53)) #[.string ⟨#[]⟩, .slice none 0 0] 56 0 rfl
  have b1 := Kit.cell_new (w.alloc (.cells #[.int .i64 x.n, xlv] 53)) #[.string ⟨#[]⟩, .slice none 0 0] 56 1 rfl
  have bf := fun i => Kit.frozen_new (w.alloc (.cells #[.int .i64 x.n, xlv] 53)) #[.string ⟨#[]⟩, .slice none 0 0] 56 i
  have hn := fun i v (h : namesV[i]? = some v) => Kit.cell_new ((w.alloc (.cells #[.int .i64 x.n, xlv] 53)).alloc (.cells #[.string ⟨#[]⟩, .slice none 0 0] 56)) namesV 9 i h
  have e0 := Kit.cell_new ((((w.alloc (.cells #[.int .i64 x.n, xlv] 53)).alloc (.cells #[.string ⟨#[]⟩, .slice none 0 0] 56)).alloc (.cells namesV 9)).alloc (.cells cs T)) #[.string nm, .slice none 0 0] 56 0 rfl
  have e1 := Kit.cell_new ((((w.alloc (.cells #[.int .i64 x.n, xlv] 53)).alloc (.cells #[.string ⟨#[]⟩, .slice none 0 0] 56)).alloc (.cells namesV 9)).alloc (.cells cs T)) #[.string nm, .slice none 0 0] 56 1 rfl
  have ef := fun i => Kit.frozen_new ((((w.alloc (.cells #[.int .i64 x.n, xlv] 53)).alloc (.cells #[.string ⟨#[]⟩, .slice none 0 0] 56)).alloc (.cells namesV 9)).alloc (.cells cs T)) #[.string nm, .slice none 0 0] 56 i
  simp only [World.size_alloc] at b0 b1 bf hn e0 e1 ef
  refine ⟨by simpa [fieldsK] using World.ownsRow_nil _ _ _ _, e0, e1, ef, Kit.cell_kept _ (Kit.cell_kept _ (Kit.cell_kept _ b0)), Kit.cell_kept _ (Kit.cell_kept _ (Kit.cell_kept _ b1)), fun i => ?_, Kit.cell_kept _ (Kit.cell_kept _ (Kit.cell_kept _ (Kit.cell_kept _ a0))), fun i hi => Kit.cell_kept _ (Kit.cell_kept _ (hn i _ ?_)), up4 w _ _ _ _ _, by omega, by omega, by simp⟩
  · rw [Kit.frozen_kept _ (by simp), Kit.frozen_kept _ (by simp), Kit.frozen_kept _ (by simp)]; exact bf i
  · have h : i = 0 ∨ i = 1 ∨ i = 2 ∨ i = 3 ∨ i = 4 ∨ i = 5 := by omega
    rcases h with rfl | rfl | rfl | rfl | rfl | rfl <;> rfl

set_option maxRecDepth 100000 in
set_option maxHeartbeats 8000000 in
theorem ClassOf_any (x : Raw4) (hx : x.Ok) (w : World) (xlv : Value) (hl : FRawL w x.l xlv) :
    Calls Tryz.prog 33 #[.agg #[.int .i64 x.n, xlv]] w fun e w' => (∃ lv, e = .returned (.agg #[.string (classOf x).nm, lv]) ∧ FdL w'.heap.size w' (classOf x).l lv ∧ Val.Fresh w.heap.size lv) ∧ Below w.heap.size w w' := by
  obtain ⟨xa, xc, rfl, z1⟩ := hl.len
  unfold maxLen at z1
  have HP := Lib.hid (fun W => pick4_any x.n hx.n1 hx.n2 6 (by decide) (by decide) W)
  have hp6 := pickN_lt x.n (n := 6) (by decide)
  have HL := Lib.hid (And.intro hl hx.l)
  unfold classOf
  generalize pickN x.n 6 = P at *
  clear hl hx
  have hP : P = 0 ∨ P = 1 ∨ P = 2 ∨ P = 3 ∨ P = 4 ∨ P = 5 := by omega
  go_enter Tryz.func33, Tryz.ntmps33
  go_upto_region 2 with fail
  go_cut [4] from 11 (fun v wx => ∃ bc, v = .pointer (some ⟨bc, 0, none⟩) ∧ OfJ w x (.slice xa x.l.length xc) (classN P) (w.heap.size + 1 + 1) bc 0 (.slice none 0 0) wx)
  case first =>
    go_wp2_with fail
    refine (HP.out _).mono ?_; rintro e w1 ⟨rfl, rfl⟩
    clear HP HL hp6
    rcases hP with rfl | rfl | rfl | rfl | rfl | rfl
    all_goals
      go_wp2
      go_meet
      exact ⟨_, rfl, OfJ.begins w x _ _ _ _⟩
  case rest =>
    obtain ⟨bc, rfl, hJ⟩ := hcut
    have J := Lib.hid hJ
    generalize hbn : w.heap.size + 1 + 1 = bn at *
    obtain ⟨nm, hnm⟩ : ∃ nm, nm = classN P := ⟨_, rfl⟩
    rw [← hnm] at J
    have HNM := Lib.hid hnm
    clear hJ hp6 hP HP hbn hnm
    obtain ⟨i0, hi0, hf⟩ : ∃ i0, Tryz.prog.info? 94 = some i0 ∧ (i0.zero, i0.size, i0.bytes) = (some (.agg #[.string ⟨#[]⟩, .int .i64 0, .int .i64 0, .bool false]), 4, 40) := by
      have := fInfo
      cases hi : Tryz.prog.info? 94 with
      | none => rw [hi] at this; cases this
      | some i => rw [hi] at this; exact ⟨i, rfl, Option.some.inj this⟩
    simp only [Prod.mk.injEq] at hf
    obtain ⟨hz0, hz1, hz2⟩ := hf
    have p1 := J.out.xb
    go_wp2
    go_loopw [5, 6, 7, 8, 9] (fun j _ _ _ _ wr => ∃ k : Nat, k ≤ x.l.length ∧ k ≤ 6 ∧ j = .int .i64 k ∧ ∃ lv, OfJ w x (.slice xa x.l.length xc) nm bn bc k lv wr) (fun j _ _ _ _ _ => 6 - (intOf j).toNat)
    case atStart => exact ⟨0, by omega, by omega, rfl, _, J.out⟩
    case round =>
      obtain ⟨k, hk, hk6, rfl, lv, hJ⟩ := hrel
      have J1 := Lib.hid hJ
      clear hJ J
      have p1 := J1.out.xb
      by_cases hlt : k < x.l.length
      · by_cases hlt6 : k < 6
        · obtain ⟨r, hr⟩ : ∃ r, x.l[k]? = some r := ⟨_, List.getElem?_eq_getElem (by omega)⟩
          have hok := HL.out.2 r (List.mem_of_getElem? hr)
          obtain ⟨b, o, c, e1, q0, q1, q2, q3⟩ : ∃ b o c, Value.slice xa x.l.length xc = .slice (some ⟨b, o, none⟩) x.l.length c ∧ wr.cell? ⟨b, o + k * 4, none⟩ = some (.int .i64 r.n) ∧ wr.cell? ⟨b, o + k * 4 + 1, none⟩ = some (.int .i64 r.k) ∧ wr.cell? ⟨b, o + k * 4 + 2, none⟩ = some (.int .i64 r.o) ∧ wr.cell? ⟨b, o + k * 4 + 3, none⟩ = some (.bool r.ix) := by
            rcases HL.out.1.below J1.out.below with ⟨h, _⟩ | ⟨b, o, c, h1, _, h3⟩
            · rw [h] at hr; simp at hr
            · exact ⟨b, o, c, h1, h3 k r hr⟩
          cases e1
          have i1 : (0 : Int) ≤ (k : Int) := by omega
          have i2 : (k : Int) < (x.l.length : Int) := by omega
          have i3 : (k : Int) < 6 := by omega
          have HR := Lib.hid (fieldsK_succ hr)
          have HPn := Lib.hid (fun W => pick4_any r.n hok.n1 hok.n2 6 (by decide) (by decide) W)
          have HPk := Lib.hid (fun W => pick4_any r.k hok.k1 hok.k2 5 (by decide) (by decide) W)
          have HPo := Lib.hid (fun W => pick4_any r.o hok.o1 hok.o2 4 (by decide) (by decide) W)
          have hn6 := pickN_lt r.n (n := 6) (by decide)
          have hk5 := pickN_lt r.k (n := 5) (by decide)
          have ho4 := pickN_lt r.o (n := 4) (by decide)
          have HRF := Lib.hid (show fieldOf r = ⟨nameN (pickN r.n 6), 1 + (pickN r.k 5 : Int), if (1 + (pickN r.k 5 : Int)) = 5 then 1 + (pickN r.o 4 : Int) else 0, r.ix && decide ((1 + (pickN r.k 5 : Int)) ≤ 3)⟩ from rfl)
          have hnm := J1.out.nms (pickN r.n 6) hn6
          generalize pickN r.n 6 = N at *
          generalize pickN r.k 5 = KK at *
          generalize pickN r.o 4 = O at *
          have BR := Lib.hid (Kit.below_alloc wr (.cells #[.int .i64 r.n, .int .i64 r.k, .int .i64 r.o, .bool r.ix] 104))
          have FR := Val.boxF_new wr (.int .i64 r.n) (.int .i64 r.k) (.int .i64 r.o) (.bool r.ix) 104
          have hnm2 := Kit.cell_kept (.cells #[.int .i64 r.n, .int .i64 r.k, .int .i64 r.o, .bool r.ix] 104) hnm
          clear hr hok
          go_upto_region 7 with fail
          clear hnm q0 q1 q2 q3 p1
          have hz1 : (wr.alloc (.cells #[.int .i64 r.n, .int .i64 r.k, .int .i64 r.o, .bool r.ix] 104)).heap.size = wr.heap.size + 1 := by simp
          have HZ1 := Lib.hid hz1
          clear hz1
          generalize wr.alloc (.cells #[.int .i64 r.n, .int .i64 r.k, .int .i64 r.o, .bool r.ix] 104) = W1 at *
          have HFR := Lib.hid FR
          obtain ⟨⟨s0, s1, s2, s3⟩, -⟩ := FR
          have j1 : (0 : Int) ≤ (N : Int) := by omega
          have j2 : (N : Int) < 6 := by omega
          have hw1 : IntKind.i64.wrap (1 + (KK : Int)) = 1 + (KK : Int) := by rw [IntKind.wrap_i64]; omega
          go_cut [7] from 34 to 79 (fun v wx => v = .pointer (some ⟨W1.heap.size, 0, none⟩) ∧ Below W1.heap.size W1 wx ∧ Val.BoxF wx W1.heap.size (.string (nameN N)) (.int .i64 (1 + (KK : Int))) (.int .i64 0) (.bool false))
          case first =>
            have HLT := Lib.hid (And.intro (show wr.heap.size < W1.heap.size from Kit.lt_of_cell s0) (show bn < W1.heap.size from Kit.lt_of_cell hnm2))
            clear HNM J1 HR HPo HRF BR HZ1 HFR ho4 hz0 hz1 hz2 hi0 hk6 hlt hlt6 i1 i2 i3 HL
            refine wp_region_held_drew (S := fun W' => W'.cell? ⟨wr.heap.size, 0, none⟩ = some (.int .i64 r.n) ∧ W'.cell? ⟨wr.heap.size, 1, none⟩ = some (.int .i64 r.k) ∧ W'.cell? ⟨bn, N, none⟩ = some (.string (nameN N))) (by kernel_rfl) ⟨s0, s1, hnm2⟩ (fun hHeld => ?_)
            refine wpAnyH_take (i := 0) (v := .slice (some ⟨bn, 0, none⟩) 6 6) Kit.at0 (by kernel_rfl) (by kernel_rfl) (by kernel_rfl) (fun _ _ _ h => h) (Or.inl ⟨by rfl, fun w hw => ?_⟩) hHeld ?_
            case' refine_1 => obtain ⟨s0, s1, s2⟩ := hw; go_simp
            try simp only [Act.put, List.setIfInBounds_toArray, List.set_cons_zero, List.set_cons_succ]
            refine wpAnyH_take (i := 1) (v := .pointer (some ⟨wr.heap.size, 0, none⟩)) Kit.at1 (by kernel_rfl) (by kernel_rfl) (by kernel_rfl) (fun _ _ _ h => h) (Or.inl ⟨by rfl, fun w hw => ?_⟩) hHeld ?_
            case' refine_1 => obtain ⟨s0, s1, s2⟩ := hw; go_simp
            try simp only [Act.put, List.setIfInBounds_toArray, List.set_cons_zero, List.set_cons_succ]
            refine wpAnyH_take (i := 2) (v := .int .i64 r.n) Kit.at2 (by kernel_rfl) (by kernel_rfl) (by kernel_rfl) (fun _ _ _ h => h) (Or.inl ⟨by rfl, fun w hw => ?_⟩) hHeld ?_
            case' refine_1 => obtain ⟨s0, s1, s2⟩ := hw; go_simp
            try simp only [Act.put, List.setIfInBounds_toArray, List.set_cons_zero, List.set_cons_succ]
            refine wpAnyH_take (i := 6) (v := .pointer (some ⟨wr.heap.size, 1, none⟩)) Kit.at6 (by kernel_rfl) (by kernel_rfl) (by kernel_rfl) (fun _ _ _ h => h) (Or.inl ⟨by rfl, fun w hw => ?_⟩) hHeld ?_
            case' refine_1 => obtain ⟨s0, s1, s2⟩ := hw; go_simp
            try simp only [Act.put, List.setIfInBounds_toArray, List.set_cons_zero, List.set_cons_succ]
            refine wpAnyH_take (i := 7) (v := .int .i64 r.k) Kit.at7 (by kernel_rfl) (by kernel_rfl) (by kernel_rfl) (fun _ _ _ h => h) (Or.inl ⟨by rfl, fun w hw => ?_⟩) hHeld ?_
            case' refine_1 => obtain ⟨s0, s1, s2⟩ := hw; go_simp
            try simp only [Act.put, List.setIfInBounds_toArray, List.set_cons_zero, List.set_cons_succ]
            have sD := hHeld
            have HBD := Lib.hid ((Below.refl W1.heap.size W1).drew)
            have HDz := Lib.hid (show W1.drew.heap.size = W1.heap.size from rfl)
            clear s0 s1 s2 s3 hnm2
            generalize W1.drew = D at *
            refine wpAnyH_ready (rs := [3, 12]) (by kernel_rfl) (by simp) ?_
            refine AllReadyH.cons Kit.at3 (fun K hK => ?t3) (AllReadyH.cons Kit.at12 (fun K hK => ?t12) AllReadyH.nil)
            case' t3 =>
              go_simp
              refine (HPn.out _).mono ?_; rintro e Wc ⟨rfl, rfl⟩
              refine hK.out _ _ sD (fun hHeld => ?_)
              clear hK K
              try simp only [Act.put, List.setIfInBounds_toArray, List.set_cons_zero, List.set_cons_succ]
              refine wpAnyH_take (i := 4) (v := .pointer (some ⟨bn, N, none⟩)) Kit.at4 (by kernel_rfl) (by kernel_rfl) (by kernel_rfl) (fun _ _ _ h => h) (Or.inl ⟨by rfl, fun w hw => ?_⟩) hHeld ?_
              case' refine_1 => obtain ⟨s0, s1, s2⟩ := hw; go_simp
              try simp only [Act.put, List.setIfInBounds_toArray, List.set_cons_zero, List.set_cons_succ]
              refine wpAnyH_take (i := 5) (v := .string (nameN N)) Kit.at5 (by kernel_rfl) (by kernel_rfl) (by kernel_rfl) (fun _ _ _ h => h) (Or.inl ⟨by rfl, fun w hw => ?_⟩) hHeld ?_
              case' refine_1 => obtain ⟨s0, s1, s2⟩ := hw; go_simp
              try simp only [Act.put, List.setIfInBounds_toArray, List.set_cons_zero, List.set_cons_succ]
              refine wpAnyH_ready (rs := [8, 12]) (by kernel_rfl) (by simp) ?_
              refine AllReadyH.cons Kit.at8 (fun K hK => ?t38) (AllReadyH.cons Kit.at12 (fun K hK => ?t312) AllReadyH.nil)
              case' t38 =>
                go_simp
                refine (HPk.out _).mono ?_; rintro e Wc ⟨rfl, rfl⟩
                refine hK.out _ _ sD (fun hHeld => ?_)
                clear hK K
                try simp only [Act.put, List.setIfInBounds_toArray, List.set_cons_zero, List.set_cons_succ]
                refine wpAnyH_take (i := 9) (v := .int .i64 (1 + (KK : Int))) Kit.at9 (by kernel_rfl) (by kernel_rfl) (by kernel_rfl) (fun _ _ _ h => h) (Or.inl ⟨by rfl, fun w hw => ?_⟩) hHeld ?_
                case' refine_1 => obtain ⟨s0, s1, s2⟩ := hw; go_simp
                try simp only [Act.put, List.setIfInBounds_toArray, List.set_cons_zero, List.set_cons_succ]
                refine wpAnyH_take (i := 10) (v := .agg #[.int .i64 (1 + (KK : Int)), .int .i64 0]) Kit.at10 (by kernel_rfl) (by kernel_rfl) (by kernel_rfl) (fun _ _ _ h => h) (Or.inl ⟨by rfl, fun w hw => ?_⟩) hHeld ?_
                case' refine_1 => obtain ⟨s0, s1, s2⟩ := hw; go_simp
                try simp only [Act.put, List.setIfInBounds_toArray, List.set_cons_zero, List.set_cons_succ]
                refine wpAnyH_take (i := 11) (v := .agg #[.string (nameN N), .int .i64 (1 + (KK : Int)), .int .i64 0, .bool false]) Kit.at11 (by kernel_rfl) (by kernel_rfl) (by kernel_rfl) (fun _ _ _ h => h) (Or.inl ⟨by rfl, fun w hw => ?_⟩) hHeld ?_
                case' refine_1 => obtain ⟨s0, s1, s2⟩ := hw; go_simp
                try simp only [Act.put, List.setIfInBounds_toArray, List.set_cons_zero, List.set_cons_succ]
                refine wpAnyH_ready (rs := [12]) (by kernel_rfl) (by simp) ?_
                refine AllReadyH.cons Kit.at12 (fun K hK => ?_) AllReadyH.nil
                have GA := Lib.hid (Val.boxF_new D (.string ⟨#[]⟩) (.int .i64 0) (.int .i64 0) (.bool false) 94)
                have SA := And.intro (Kit.cell_kept (.cells #[.string ⟨#[]⟩, .int .i64 0, .int .i64 0, .bool false] 94) sD.1) (And.intro (Kit.cell_kept (.cells #[.string ⟨#[]⟩, .int .i64 0, .int .i64 0, .bool false] 94) sD.2.1) (Kit.cell_kept (.cells #[.string ⟨#[]⟩, .int .i64 0, .int .i64 0, .bool false] 94) sD.2.2))
                have BA := Lib.hid (HBD.out.trans ((Kit.below_alloc D (.cells #[.string ⟨#[]⟩, .int .i64 0, .int .i64 0, .bool false] 94)).mono (Nat.le_of_eq HDz.out.symm)))
                go_simp
                refine hK.out _ _ SA (fun hHeld => ?_)
                clear hK K
                try simp only [Act.put, List.setIfInBounds_toArray, List.set_cons_zero, List.set_cons_succ]
                generalize D.alloc (.cells #[.string ⟨#[]⟩, .int .i64 0, .int .i64 0, .bool false] 94) = Da at *
                generalize hFD : D.heap.size = F at *
                have HFD := Lib.hid hFD
                clear hFD
                refine wpAnyH_ready (rs := [13]) (by kernel_rfl) (by simp) ?_
                refine AllReadyH.cons Kit.at13 (fun K hK => ?_) AllReadyH.nil
                obtain ⟨⟨y0, y1, y2, y3⟩, yf⟩ := GA.out
                have yf0 := yf 0
                have yf1 := yf 1
                have yf2 := yf 2
                have yf3 := yf 3
                clear yf
                have hm := Val.end4b F Da (.string (nameN N)) (.int .i64 (1 + (KK : Int))) (.int .i64 0) (.bool false)
                go_simp
                refine hK.out _ _ ⟨cell_moved hm SA.1 (by have h1 := HLT.out; have h2 := HDz.out; dsimp only; omega), cell_moved hm SA.2.1 (by have h1 := HLT.out; have h2 := HDz.out; dsimp only; omega), cell_moved hm SA.2.2 (by have h1 := HLT.out; have h2 := HDz.out; dsimp only; omega)⟩ (fun _ => wpAnyH_done (by kernel_rfl) ?_ _)
                go_wp2
                go_meet
                exact ⟨by rw [← HDz.out], BA.out.trans (hm.below (fun j hj => by have := HDz.out; omega) (by have := HDz.out; have := BA.out.size; omega)), by rw [← HDz.out]; exact boxF_put4 GA.out _ _ _ _⟩
              case' t312 =>
                have GA := Lib.hid (Val.boxF_new D (.string ⟨#[]⟩) (.int .i64 0) (.int .i64 0) (.bool false) 94)
                have SA := And.intro (Kit.cell_kept (.cells #[.string ⟨#[]⟩, .int .i64 0, .int .i64 0, .bool false] 94) sD.1) (And.intro (Kit.cell_kept (.cells #[.string ⟨#[]⟩, .int .i64 0, .int .i64 0, .bool false] 94) sD.2.1) (Kit.cell_kept (.cells #[.string ⟨#[]⟩, .int .i64 0, .int .i64 0, .bool false] 94) sD.2.2))
                have BA := Lib.hid (HBD.out.trans ((Kit.below_alloc D (.cells #[.string ⟨#[]⟩, .int .i64 0, .int .i64 0, .bool false] 94)).mono (Nat.le_of_eq HDz.out.symm)))
                go_simp
                refine hK.out _ _ SA (fun hHeld => ?_)
                clear hK K
                try simp only [Act.put, List.setIfInBounds_toArray, List.set_cons_zero, List.set_cons_succ]
                generalize D.alloc (.cells #[.string ⟨#[]⟩, .int .i64 0, .int .i64 0, .bool false] 94) = Da at *
                generalize hFD : D.heap.size = F at *
                have HFD := Lib.hid hFD
                clear hFD
                refine wpAnyH_ready (rs := [8]) (by kernel_rfl) (by simp) ?_
                refine AllReadyH.cons Kit.at8 (fun K hK => ?_) AllReadyH.nil
                go_simp
                refine (HPk.out _).mono ?_; rintro e Wc ⟨rfl, rfl⟩
                refine hK.out _ _ SA (fun hHeld => ?_)
                clear hK K
                try simp only [Act.put, List.setIfInBounds_toArray, List.set_cons_zero, List.set_cons_succ]
                refine wpAnyH_take (i := 9) (v := .int .i64 (1 + (KK : Int))) Kit.at9 (by kernel_rfl) (by kernel_rfl) (by kernel_rfl) (fun _ _ _ h => h) (Or.inl ⟨by rfl, fun w hw => ?_⟩) hHeld ?_
                case' refine_1 => obtain ⟨s0, s1, s2⟩ := hw; go_simp
                try simp only [Act.put, List.setIfInBounds_toArray, List.set_cons_zero, List.set_cons_succ]
                refine wpAnyH_take (i := 10) (v := .agg #[.int .i64 (1 + (KK : Int)), .int .i64 0]) Kit.at10 (by kernel_rfl) (by kernel_rfl) (by kernel_rfl) (fun _ _ _ h => h) (Or.inl ⟨by rfl, fun w hw => ?_⟩) hHeld ?_
                case' refine_1 => obtain ⟨s0, s1, s2⟩ := hw; go_simp
                try simp only [Act.put, List.setIfInBounds_toArray, List.set_cons_zero, List.set_cons_succ]
                refine wpAnyH_take (i := 11) (v := .agg #[.string (nameN N), .int .i64 (1 + (KK : Int)), .int .i64 0, .bool false]) Kit.at11 (by kernel_rfl) (by kernel_rfl) (by kernel_rfl) (fun _ _ _ h => h) (Or.inl ⟨by rfl, fun w hw => ?_⟩) hHeld ?_
                case' refine_1 => obtain ⟨s0, s1, s2⟩ := hw; go_simp
                try simp only [Act.put, List.setIfInBounds_toArray, List.set_cons_zero, List.set_cons_succ]
                refine wpAnyH_ready (rs := [13]) (by kernel_rfl) (by simp) ?_
                refine AllReadyH.cons Kit.at13 (fun K hK => ?_) AllReadyH.nil
                obtain ⟨⟨y0, y1, y2, y3⟩, yf⟩ := GA.out
                have yf0 := yf 0
                have yf1 := yf 1
                have yf2 := yf 2
                have yf3 := yf 3
                clear yf
                have hm := Val.end4b F Da (.string (nameN N)) (.int .i64 (1 + (KK : Int))) (.int .i64 0) (.bool false)
                go_simp
                refine hK.out _ _ ⟨cell_moved hm SA.1 (by have h1 := HLT.out; have h2 := HDz.out; dsimp only; omega), cell_moved hm SA.2.1 (by have h1 := HLT.out; have h2 := HDz.out; dsimp only; omega), cell_moved hm SA.2.2 (by have h1 := HLT.out; have h2 := HDz.out; dsimp only; omega)⟩ (fun _ => wpAnyH_done (by kernel_rfl) ?_ _)
                go_wp2
                go_meet
                exact ⟨by rw [← HDz.out], BA.out.trans (hm.below (fun j hj => by have := HDz.out; omega) (by have := HDz.out; have := BA.out.size; omega)), by rw [← HDz.out]; exact boxF_put4 GA.out _ _ _ _⟩
            case' t12 =>
              have GA := Lib.hid (Val.boxF_new D (.string ⟨#[]⟩) (.int .i64 0) (.int .i64 0) (.bool false) 94)
              have SA := And.intro (Kit.cell_kept (.cells #[.string ⟨#[]⟩, .int .i64 0, .int .i64 0, .bool false] 94) sD.1) (And.intro (Kit.cell_kept (.cells #[.string ⟨#[]⟩, .int .i64 0, .int .i64 0, .bool false] 94) sD.2.1) (Kit.cell_kept (.cells #[.string ⟨#[]⟩, .int .i64 0, .int .i64 0, .bool false] 94) sD.2.2))
              have BA := Lib.hid (HBD.out.trans ((Kit.below_alloc D (.cells #[.string ⟨#[]⟩, .int .i64 0, .int .i64 0, .bool false] 94)).mono (Nat.le_of_eq HDz.out.symm)))
              go_simp
              refine hK.out _ _ SA (fun hHeld => ?_)
              clear hK K
              try simp only [Act.put, List.setIfInBounds_toArray, List.set_cons_zero, List.set_cons_succ]
              generalize D.alloc (.cells #[.string ⟨#[]⟩, .int .i64 0, .int .i64 0, .bool false] 94) = Da at *
              generalize hFD : D.heap.size = F at *
              have HFD := Lib.hid hFD
              clear hFD
              refine wpAnyH_ready (rs := [3]) (by kernel_rfl) (by simp) ?_
              refine AllReadyH.cons Kit.at3 (fun K hK => ?_) AllReadyH.nil
              go_simp
              refine (HPn.out _).mono ?_; rintro e Wc ⟨rfl, rfl⟩
              refine hK.out _ _ SA (fun hHeld => ?_)
              clear hK K
              try simp only [Act.put, List.setIfInBounds_toArray, List.set_cons_zero, List.set_cons_succ]
              refine wpAnyH_take (i := 4) (v := .pointer (some ⟨bn, N, none⟩)) Kit.at4 (by kernel_rfl) (by kernel_rfl) (by kernel_rfl) (fun _ _ _ h => h) (Or.inl ⟨by rfl, fun w hw => ?_⟩) hHeld ?_
              case' refine_1 => obtain ⟨s0, s1, s2⟩ := hw; go_simp
              try simp only [Act.put, List.setIfInBounds_toArray, List.set_cons_zero, List.set_cons_succ]
              refine wpAnyH_take (i := 5) (v := .string (nameN N)) Kit.at5 (by kernel_rfl) (by kernel_rfl) (by kernel_rfl) (fun _ _ _ h => h) (Or.inl ⟨by rfl, fun w hw => ?_⟩) hHeld ?_
              case' refine_1 => obtain ⟨s0, s1, s2⟩ := hw; go_simp
              try simp only [Act.put, List.setIfInBounds_toArray, List.set_cons_zero, List.set_cons_succ]
              refine wpAnyH_ready (rs := [8]) (by kernel_rfl) (by simp) ?_
              refine AllReadyH.cons Kit.at8 (fun K hK => ?_) AllReadyH.nil
              go_simp
              refine (HPk.out _).mono ?_; rintro e Wc ⟨rfl, rfl⟩
              refine hK.out _ _ SA (fun hHeld => ?_)
              clear hK K
              try simp only [Act.put, List.setIfInBounds_toArray, List.set_cons_zero, List.set_cons_succ]
              refine wpAnyH_take (i := 9) (v := .int .i64 (1 + (KK : Int))) Kit.at9 (by kernel_rfl) (by kernel_rfl) (by kernel_rfl) (fun _ _ _ h => h) (Or.inl ⟨by rfl, fun w hw => ?_⟩) hHeld ?_
              case' refine_1 => obtain ⟨s0, s1, s2⟩ := hw; go_simp
              try simp only [Act.put, List.setIfInBounds_toArray, List.set_cons_zero, List.set_cons_succ]
              refine wpAnyH_take (i := 10) (v := .agg #[.int .i64 (1 + (KK : Int)), .int .i64 0]) Kit.at10 (by kernel_rfl) (by kernel_rfl) (by kernel_rfl) (fun _ _ _ h => h) (Or.inl ⟨by rfl, fun w hw => ?_⟩) hHeld ?_
              case' refine_1 => obtain ⟨s0, s1, s2⟩ := hw; go_simp
              try simp only [Act.put, List.setIfInBounds_toArray, List.set_cons_zero, List.set_cons_succ]
              refine wpAnyH_take (i := 11) (v := .agg #[.string (nameN N), .int .i64 (1 + (KK : Int)), .int .i64 0, .bool false]) Kit.at11 (by kernel_rfl) (by kernel_rfl) (by kernel_rfl) (fun _ _ _ h => h) (Or.inl ⟨by rfl, fun w hw => ?_⟩) hHeld ?_
              case' refine_1 => obtain ⟨s0, s1, s2⟩ := hw; go_simp
              try simp only [Act.put, List.setIfInBounds_toArray, List.set_cons_zero, List.set_cons_succ]
              refine wpAnyH_ready (rs := [13]) (by kernel_rfl) (by simp) ?_
              refine AllReadyH.cons Kit.at13 (fun K hK => ?_) AllReadyH.nil
              obtain ⟨⟨y0, y1, y2, y3⟩, yf⟩ := GA.out
              have yf0 := yf 0
              have yf1 := yf 1
              have yf2 := yf 2
              have yf3 := yf 3
              clear yf
              have hm := Val.end4b F Da (.string (nameN N)) (.int .i64 (1 + (KK : Int))) (.int .i64 0) (.bool false)
              go_simp
              refine hK.out _ _ ⟨cell_moved hm SA.1 (by have h1 := HLT.out; have h2 := HDz.out; dsimp only; omega), cell_moved hm SA.2.1 (by have h1 := HLT.out; have h2 := HDz.out; dsimp only; omega), cell_moved hm SA.2.2 (by have h1 := HLT.out; have h2 := HDz.out; dsimp only; omega)⟩ (fun _ => wpAnyH_done (by kernel_rfl) ?_ _)
              go_wp2
              go_meet
              exact ⟨by rw [← HDz.out], BA.out.trans (hm.below (fun j hj => by have := HDz.out; omega) (by have := HDz.out; have := BA.out.size; omega)), by rw [← HDz.out]; exact boxF_put4 GA.out _ _ _ _⟩
          case rest =>
            obtain ⟨rfl, hBx, hbx⟩ := hcut
            have BW := Lib.hid (BR.out.trans (hBx.mono (by have := HZ1.out; omega)))
            have FX := Lib.hid hbx
            have RX := Lib.hid (HFR.out.moved (Kit.Moved.of_below hBx) (by have := HZ1.out; omega))
            have hb : wr.heap.size < W1.heap.size := by have := HZ1.out; omega
            clear hBx hbx HFR HZ1 BR s0 s1 s2 s3 hnm2
            generalize W1.heap.size = F at *
            have hwF : F < wc.heap.size := FX.out.c.lt
            generalize r.ix = IX at *
            obtain ⟨⟨y0, y1, y2, y3⟩, yf⟩ := FX.out
            have yf2 := yf 2
            have yf3 := yf 3
            obtain ⟨⟨s0, s1, s2, s3⟩, -⟩ := RX.out
            clear yf
            have hwo : IntKind.i64.wrap (1 + (O : Int)) = 1 + (O : Int) := by rw [IntKind.wrap_i64]; omega
            by_cases hK : (1 + (KK : Int)) = 5
            · have hKb : ((1 + (KK : Int)) == 5) = true := by simp [hK]
              have HK := Lib.hid hK
              clear hK
              cases IX
              · go_upto_region 11 with (go_at_call 72; refine (HPo.out _).mono ?_; rintro e w2 ⟨rfl, rfl⟩)
                have hF4 : Val.BoxF ((wc.setCell ⟨F, 2, none⟩ (.int .i64 (1 + (O : Int)))).setCell ⟨F, 3, none⟩ (.bool (false))) F (.string (nameN N)) (.int .i64 (1 + (KK : Int))) (.int .i64 (1 + (O : Int))) (.bool (false)) := ⟨by refine ⟨?_, ?_, ?_, ?_⟩ <;> simp [go_sem, y0, y1, y2, y3], fun i => by simp only [World.frozen?_setCell]; exact FX.out.f i⟩
                have m4 : Moved (fun j => j = F) wc ((wc.setCell ⟨F, 2, none⟩ (.int .i64 (1 + (O : Int)))).setCell ⟨F, 3, none⟩ (.bool (false))) := (Kit.Moved.setCell (fun j => j = F) wc ⟨F, 2, none⟩ _ rfl).trans (Kit.Moved.setCell (fun j => j = F) _ ⟨F, 3, none⟩ _ rfl) (fun _ _ h => h)
                generalize (wc.setCell ⟨F, 2, none⟩ (.int .i64 (1 + (O : Int)))).setCell ⟨F, 3, none⟩ (.bool (false)) = W4 at *
                obtain ⟨f, hf⟩ : ∃ f, f = fieldOf r := ⟨_, rfl⟩
                have hfo : f = ⟨nameN N, 1 + (KK : Int), 1 + (O : Int), false⟩ := by rw [hf, HRF.out]; simp [HK.out]
                have HFF := Lib.hid hf
                rw [show nameN N = f.nm by rw [hfo], show (.int .i64 (1 + (O : Int)) : Value) = .int .i64 f.o by rw [hfo], show (false) = f.ix by rw [hfo], show (1 + (KK : Int)) = f.k by rw [hfo]] at hF4
                clear hf hfo
                have J4 := Lib.hid (J1.out.later (BW.out.trans (m4.below (B := wr.heap.size) (fun j hj => by omega) BW.out.size)))
                have hl4 := fdL_own J4.out.row rfl
                have F4 := Lib.hid hF4
                have HC := Lib.hid (refField_any ⟨nm, fieldsK x.l k⟩ f.nm _ W4 lv (Nat.le_refl _) hl4)
                obtain ⟨va, vc, rfl, -⟩ := hl4.len
                have hlen := fieldsK_len x.l k
                clear hl4 hF4 m4 J1 FX RX BW HPn HPk HPo
                have c0 := J4.out.c0
                have c1 := J4.out.c1
                obtain ⟨⟨y0, y1, y2, y3⟩, -⟩ := F4.out
                go_wp2_with fail
                refine HC.out.mono ?_; rintro e w5 ⟨rfl, hB5⟩
                have J5 := Lib.hid (J4.out.later hB5)
                have F5 := Lib.hid (F4.out.moved (Kit.Moved.of_below hB5) (by have := F4.out.c.lt; omega))
                clear HC hB5 J4 F4 c0 c1 y0 y1 y2 y3
                unfold fieldV
                by_cases hfa : fieldAt (fieldsK x.l k) f.nm < 0
                · rw [if_pos hfa]
                  have HA := Lib.hid (show fieldsK x.l (k + 1) = fieldsK x.l k ++ [f] by rw [HR.out, ← HFF.out]; unfold addF; rw [if_pos hfa])
                  have c1 := J5.out.c1
                  obtain ⟨⟨y0, y1, y2, y3⟩, -⟩ := F5.out
                  go_wp2_with (at_builtin; refine wpList_append_own_at _ rfl _ _ 54 rfl (bc + 1) 94 i0 (.agg zeroF.toArray) 4 40 Tryz.underlying54 hi0 hz0 hz1 hz2 rfl (by decide) _ _ _ rfl (J5.out.row.alloc _) ⟨w5.heap.size, 0, none⟩ 1 1 (cellsFd f) rfl rfl (fun j u hu => by rw [Addr.add_mid]; exact Kit.cell_new w5 _ _ (0 + j) (by rw [Nat.zero_add, ← Array.getElem?_toList]; exact hu)) (cellsFd_one _) (by unfold maxLen; omega) (by omega) (by have := J5.out.lt3; simp; omega) ?_; intro v6 W6 hown6 hg6 _ _; have J6 := Lib.hid (J5.out.later (Kit.below_alloc w5 (.cells #[.string f.nm, .int .i64 f.k, .int .i64 f.o, .bool f.ix] 94))); have G6 := Lib.hid hg6; have O6 := Lib.hid hown6; have m6 : Moved (fun j => bc < j) _ W6 := (Kit.Moved.of_grownBy hg6).mono fun j _ hj => (by have := (J6.out.row.lt j hj).1; omega); have c6 := cell_moved m6 J6.out.c1 (by simp); have f6 := (frozen_moved m6 (a := ⟨bc, 1, none⟩) J6.out.lt3 (by simp)).trans (J6.out.cf 1); obtain ⟨g, cap, rfl, -, -⟩ := Kit.ownsRow_succ' hown6; clear hown6 hg6 m6 c1 y0 y1 y2 y3)
                  go_roundw
                  case rel => exact ⟨k + 1, by omega, by omega, by go_num, _, J6.out.more G6.out (by rw [HA.out, List.flatMap_append, List.length_append]; simpa using O6.out)⟩
                  case measure => simp [intOf]; omega
                · rw [if_neg hfa]
                  have HA := Lib.hid (show fieldsK x.l (k + 1) = fieldsK x.l k by rw [HR.out, ← HFF.out]; unfold addF; rw [if_neg hfa])
                  go_wp2
                  go_roundw
                  case rel => exact ⟨k + 1, by omega, by omega, by go_num, _, J5.out.same HA.out⟩
                  case measure => simp [intOf]; omega
              · go_upto_region 11 with (go_at_call 72; refine (HPo.out _).mono ?_; rintro e w2 ⟨rfl, rfl⟩)
                have hF4 : Val.BoxF ((wc.setCell ⟨F, 2, none⟩ (.int .i64 (1 + (O : Int)))).setCell ⟨F, 3, none⟩ (.bool (decide ((1 + (KK : Int)) ≤ 3)))) F (.string (nameN N)) (.int .i64 (1 + (KK : Int))) (.int .i64 (1 + (O : Int))) (.bool (decide ((1 + (KK : Int)) ≤ 3))) := ⟨by refine ⟨?_, ?_, ?_, ?_⟩ <;> simp [go_sem, y0, y1, y2, y3], fun i => by simp only [World.frozen?_setCell]; exact FX.out.f i⟩
                have m4 : Moved (fun j => j = F) wc ((wc.setCell ⟨F, 2, none⟩ (.int .i64 (1 + (O : Int)))).setCell ⟨F, 3, none⟩ (.bool (decide ((1 + (KK : Int)) ≤ 3)))) := (Kit.Moved.setCell (fun j => j = F) wc ⟨F, 2, none⟩ _ rfl).trans (Kit.Moved.setCell (fun j => j = F) _ ⟨F, 3, none⟩ _ rfl) (fun _ _ h => h)
                generalize (wc.setCell ⟨F, 2, none⟩ (.int .i64 (1 + (O : Int)))).setCell ⟨F, 3, none⟩ (.bool (decide ((1 + (KK : Int)) ≤ 3))) = W4 at *
                obtain ⟨f, hf⟩ : ∃ f, f = fieldOf r := ⟨_, rfl⟩
                have hfo : f = ⟨nameN N, 1 + (KK : Int), 1 + (O : Int), decide ((1 + (KK : Int)) ≤ 3)⟩ := by rw [hf, HRF.out]; simp [HK.out]
                have HFF := Lib.hid hf
                rw [show nameN N = f.nm by rw [hfo], show (.int .i64 (1 + (O : Int)) : Value) = .int .i64 f.o by rw [hfo], show (decide ((1 + (KK : Int)) ≤ 3)) = f.ix by rw [hfo], show (1 + (KK : Int)) = f.k by rw [hfo]] at hF4
                clear hf hfo
                have J4 := Lib.hid (J1.out.later (BW.out.trans (m4.below (B := wr.heap.size) (fun j hj => by omega) BW.out.size)))
                have hl4 := fdL_own J4.out.row rfl
                have F4 := Lib.hid hF4
                have HC := Lib.hid (refField_any ⟨nm, fieldsK x.l k⟩ f.nm _ W4 lv (Nat.le_refl _) hl4)
                obtain ⟨va, vc, rfl, -⟩ := hl4.len
                have hlen := fieldsK_len x.l k
                clear hl4 hF4 m4 J1 FX RX BW HPn HPk HPo
                have c0 := J4.out.c0
                have c1 := J4.out.c1
                obtain ⟨⟨y0, y1, y2, y3⟩, -⟩ := F4.out
                go_wp2_with fail
                refine HC.out.mono ?_; rintro e w5 ⟨rfl, hB5⟩
                have J5 := Lib.hid (J4.out.later hB5)
                have F5 := Lib.hid (F4.out.moved (Kit.Moved.of_below hB5) (by have := F4.out.c.lt; omega))
                clear HC hB5 J4 F4 c0 c1 y0 y1 y2 y3
                unfold fieldV
                by_cases hfa : fieldAt (fieldsK x.l k) f.nm < 0
                · rw [if_pos hfa]
                  have HA := Lib.hid (show fieldsK x.l (k + 1) = fieldsK x.l k ++ [f] by rw [HR.out, ← HFF.out]; unfold addF; rw [if_pos hfa])
                  have c1 := J5.out.c1
                  obtain ⟨⟨y0, y1, y2, y3⟩, -⟩ := F5.out
                  go_wp2_with (at_builtin; refine wpList_append_own_at _ rfl _ _ 54 rfl (bc + 1) 94 i0 (.agg zeroF.toArray) 4 40 Tryz.underlying54 hi0 hz0 hz1 hz2 rfl (by decide) _ _ _ rfl (J5.out.row.alloc _) ⟨w5.heap.size, 0, none⟩ 1 1 (cellsFd f) rfl rfl (fun j u hu => by rw [Addr.add_mid]; exact Kit.cell_new w5 _ _ (0 + j) (by rw [Nat.zero_add, ← Array.getElem?_toList]; exact hu)) (cellsFd_one _) (by unfold maxLen; omega) (by omega) (by have := J5.out.lt3; simp; omega) ?_; intro v6 W6 hown6 hg6 _ _; have J6 := Lib.hid (J5.out.later (Kit.below_alloc w5 (.cells #[.string f.nm, .int .i64 f.k, .int .i64 f.o, .bool f.ix] 94))); have G6 := Lib.hid hg6; have O6 := Lib.hid hown6; have m6 : Moved (fun j => bc < j) _ W6 := (Kit.Moved.of_grownBy hg6).mono fun j _ hj => (by have := (J6.out.row.lt j hj).1; omega); have c6 := cell_moved m6 J6.out.c1 (by simp); have f6 := (frozen_moved m6 (a := ⟨bc, 1, none⟩) J6.out.lt3 (by simp)).trans (J6.out.cf 1); obtain ⟨g, cap, rfl, -, -⟩ := Kit.ownsRow_succ' hown6; clear hown6 hg6 m6 c1 y0 y1 y2 y3)
                  go_roundw
                  case rel => exact ⟨k + 1, by omega, by omega, by go_num, _, J6.out.more G6.out (by rw [HA.out, List.flatMap_append, List.length_append]; simpa using O6.out)⟩
                  case measure => simp [intOf]; omega
                · rw [if_neg hfa]
                  have HA := Lib.hid (show fieldsK x.l (k + 1) = fieldsK x.l k by rw [HR.out, ← HFF.out]; unfold addF; rw [if_neg hfa])
                  go_wp2
                  go_roundw
                  case rel => exact ⟨k + 1, by omega, by omega, by go_num, _, J5.out.same HA.out⟩
                  case measure => simp [intOf]; omega
            · have hKb : ((1 + (KK : Int)) == 5) = false := by simpa using hK
              have HK := Lib.hid hK
              clear hK
              cases IX
              · go_upto_region 11 with fail
                have hF4 : Val.BoxF (wc.setCell ⟨F, 3, none⟩ (.bool (false))) F (.string (nameN N)) (.int .i64 (1 + (KK : Int))) (.int .i64 0) (.bool (false)) := ⟨by refine ⟨?_, ?_, ?_, ?_⟩ <;> simp [go_sem, y0, y1, y2, y3], fun i => by simp only [World.frozen?_setCell]; exact FX.out.f i⟩
                have m4 : Moved (fun j => j = F) wc (wc.setCell ⟨F, 3, none⟩ (.bool (false))) := Kit.Moved.setCell (fun j => j = F) wc ⟨F, 3, none⟩ _ rfl
                generalize wc.setCell ⟨F, 3, none⟩ (.bool (false)) = W4 at *
                obtain ⟨f, hf⟩ : ∃ f, f = fieldOf r := ⟨_, rfl⟩
                have hfo : f = ⟨nameN N, 1 + (KK : Int), 0, false⟩ := by rw [hf, HRF.out]; simp [HK.out]
                have HFF := Lib.hid hf
                rw [show nameN N = f.nm by rw [hfo], show (.int .i64 0 : Value) = .int .i64 f.o by rw [hfo], show (false) = f.ix by rw [hfo], show (1 + (KK : Int)) = f.k by rw [hfo]] at hF4
                clear hf hfo
                have J4 := Lib.hid (J1.out.later (BW.out.trans (m4.below (B := wr.heap.size) (fun j hj => by omega) BW.out.size)))
                have hl4 := fdL_own J4.out.row rfl
                have F4 := Lib.hid hF4
                have HC := Lib.hid (refField_any ⟨nm, fieldsK x.l k⟩ f.nm _ W4 lv (Nat.le_refl _) hl4)
                obtain ⟨va, vc, rfl, -⟩ := hl4.len
                have hlen := fieldsK_len x.l k
                clear hl4 hF4 m4 J1 FX RX BW HPn HPk HPo
                have c0 := J4.out.c0
                have c1 := J4.out.c1
                obtain ⟨⟨y0, y1, y2, y3⟩, -⟩ := F4.out
                go_wp2_with fail
                refine HC.out.mono ?_; rintro e w5 ⟨rfl, hB5⟩
                have J5 := Lib.hid (J4.out.later hB5)
                have F5 := Lib.hid (F4.out.moved (Kit.Moved.of_below hB5) (by have := F4.out.c.lt; omega))
                clear HC hB5 J4 F4 c0 c1 y0 y1 y2 y3
                unfold fieldV
                by_cases hfa : fieldAt (fieldsK x.l k) f.nm < 0
                · rw [if_pos hfa]
                  have HA := Lib.hid (show fieldsK x.l (k + 1) = fieldsK x.l k ++ [f] by rw [HR.out, ← HFF.out]; unfold addF; rw [if_pos hfa])
                  have c1 := J5.out.c1
                  obtain ⟨⟨y0, y1, y2, y3⟩, -⟩ := F5.out
                  go_wp2_with (at_builtin; refine wpList_append_own_at _ rfl _ _ 54 rfl (bc + 1) 94 i0 (.agg zeroF.toArray) 4 40 Tryz.underlying54 hi0 hz0 hz1 hz2 rfl (by decide) _ _ _ rfl (J5.out.row.alloc _) ⟨w5.heap.size, 0, none⟩ 1 1 (cellsFd f) rfl rfl (fun j u hu => by rw [Addr.add_mid]; exact Kit.cell_new w5 _ _ (0 + j) (by rw [Nat.zero_add, ← Array.getElem?_toList]; exact hu)) (cellsFd_one _) (by unfold maxLen; omega) (by omega) (by have := J5.out.lt3; simp; omega) ?_; intro v6 W6 hown6 hg6 _ _; have J6 := Lib.hid (J5.out.later (Kit.below_alloc w5 (.cells #[.string f.nm, .int .i64 f.k, .int .i64 f.o, .bool f.ix] 94))); have G6 := Lib.hid hg6; have O6 := Lib.hid hown6; have m6 : Moved (fun j => bc < j) _ W6 := (Kit.Moved.of_grownBy hg6).mono fun j _ hj => (by have := (J6.out.row.lt j hj).1; omega); have c6 := cell_moved m6 J6.out.c1 (by simp); have f6 := (frozen_moved m6 (a := ⟨bc, 1, none⟩) J6.out.lt3 (by simp)).trans (J6.out.cf 1); obtain ⟨g, cap, rfl, -, -⟩ := Kit.ownsRow_succ' hown6; clear hown6 hg6 m6 c1 y0 y1 y2 y3)
                  go_roundw
                  case rel => exact ⟨k + 1, by omega, by omega, by go_num, _, J6.out.more G6.out (by rw [HA.out, List.flatMap_append, List.length_append]; simpa using O6.out)⟩
                  case measure => simp [intOf]; omega
                · rw [if_neg hfa]
                  have HA := Lib.hid (show fieldsK x.l (k + 1) = fieldsK x.l k by rw [HR.out, ← HFF.out]; unfold addF; rw [if_neg hfa])
                  go_wp2
                  go_roundw
                  case rel => exact ⟨k + 1, by omega, by omega, by go_num, _, J5.out.same HA.out⟩
                  case measure => simp [intOf]; omega
              · go_upto_region 11 with fail
                have hF4 : Val.BoxF (wc.setCell ⟨F, 3, none⟩ (.bool (decide ((1 + (KK : Int)) ≤ 3)))) F (.string (nameN N)) (.int .i64 (1 + (KK : Int))) (.int .i64 0) (.bool (decide ((1 + (KK : Int)) ≤ 3))) := ⟨by refine ⟨?_, ?_, ?_, ?_⟩ <;> simp [go_sem, y0, y1, y2, y3], fun i => by simp only [World.frozen?_setCell]; exact FX.out.f i⟩
                have m4 : Moved (fun j => j = F) wc (wc.setCell ⟨F, 3, none⟩ (.bool (decide ((1 + (KK : Int)) ≤ 3)))) := Kit.Moved.setCell (fun j => j = F) wc ⟨F, 3, none⟩ _ rfl
                generalize wc.setCell ⟨F, 3, none⟩ (.bool (decide ((1 + (KK : Int)) ≤ 3))) = W4 at *
                obtain ⟨f, hf⟩ : ∃ f, f = fieldOf r := ⟨_, rfl⟩
                have hfo : f = ⟨nameN N, 1 + (KK : Int), 0, decide ((1 + (KK : Int)) ≤ 3)⟩ := by rw [hf, HRF.out]; simp [HK.out]
                have HFF := Lib.hid hf
                rw [show nameN N = f.nm by rw [hfo], show (.int .i64 0 : Value) = .int .i64 f.o by rw [hfo], show (decide ((1 + (KK : Int)) ≤ 3)) = f.ix by rw [hfo], show (1 + (KK : Int)) = f.k by rw [hfo]] at hF4
                clear hf hfo
                have J4 := Lib.hid (J1.out.later (BW.out.trans (m4.below (B := wr.heap.size) (fun j hj => by omega) BW.out.size)))
                have hl4 := fdL_own J4.out.row rfl
                have F4 := Lib.hid hF4
                have HC := Lib.hid (refField_any ⟨nm, fieldsK x.l k⟩ f.nm _ W4 lv (Nat.le_refl _) hl4)
                obtain ⟨va, vc, rfl, -⟩ := hl4.len
                have hlen := fieldsK_len x.l k
                clear hl4 hF4 m4 J1 FX RX BW HPn HPk HPo
                have c0 := J4.out.c0
                have c1 := J4.out.c1
                obtain ⟨⟨y0, y1, y2, y3⟩, -⟩ := F4.out
                go_wp2_with fail
                refine HC.out.mono ?_; rintro e w5 ⟨rfl, hB5⟩
                have J5 := Lib.hid (J4.out.later hB5)
                have F5 := Lib.hid (F4.out.moved (Kit.Moved.of_below hB5) (by have := F4.out.c.lt; omega))
                clear HC hB5 J4 F4 c0 c1 y0 y1 y2 y3
                unfold fieldV
                by_cases hfa : fieldAt (fieldsK x.l k) f.nm < 0
                · rw [if_pos hfa]
                  have HA := Lib.hid (show fieldsK x.l (k + 1) = fieldsK x.l k ++ [f] by rw [HR.out, ← HFF.out]; unfold addF; rw [if_pos hfa])
                  have c1 := J5.out.c1
                  obtain ⟨⟨y0, y1, y2, y3⟩, -⟩ := F5.out
                  go_wp2_with (at_builtin; refine wpList_append_own_at _ rfl _ _ 54 rfl (bc + 1) 94 i0 (.agg zeroF.toArray) 4 40 Tryz.underlying54 hi0 hz0 hz1 hz2 rfl (by decide) _ _ _ rfl (J5.out.row.alloc _) ⟨w5.heap.size, 0, none⟩ 1 1 (cellsFd f) rfl rfl (fun j u hu => by rw [Addr.add_mid]; exact Kit.cell_new w5 _ _ (0 + j) (by rw [Nat.zero_add, ← Array.getElem?_toList]; exact hu)) (cellsFd_one _) (by unfold maxLen; omega) (by omega) (by have := J5.out.lt3; simp; omega) ?_; intro v6 W6 hown6 hg6 _ _; have J6 := Lib.hid (J5.out.later (Kit.below_alloc w5 (.cells #[.string f.nm, .int .i64 f.k, .int .i64 f.o, .bool f.ix] 94))); have G6 := Lib.hid hg6; have O6 := Lib.hid hown6; have m6 : Moved (fun j => bc < j) _ W6 := (Kit.Moved.of_grownBy hg6).mono fun j _ hj => (by have := (J6.out.row.lt j hj).1; omega); have c6 := cell_moved m6 J6.out.c1 (by simp); have f6 := (frozen_moved m6 (a := ⟨bc, 1, none⟩) J6.out.lt3 (by simp)).trans (J6.out.cf 1); obtain ⟨g, cap, rfl, -, -⟩ := Kit.ownsRow_succ' hown6; clear hown6 hg6 m6 c1 y0 y1 y2 y3)
                  go_roundw
                  case rel => exact ⟨k + 1, by omega, by omega, by go_num, _, J6.out.more G6.out (by rw [HA.out, List.flatMap_append, List.length_append]; simpa using O6.out)⟩
                  case measure => simp [intOf]; omega
                · rw [if_neg hfa]
                  have HA := Lib.hid (show fieldsK x.l (k + 1) = fieldsK x.l k by rw [HR.out, ← HFF.out]; unfold addF; rw [if_neg hfa])
                  go_wp2
                  go_roundw
                  case rel => exact ⟨k + 1, by omega, by omega, by go_num, _, J5.out.same HA.out⟩
                  case measure => simp [intOf]; omega
        · have i2 : (k : Int) < (x.l.length : Int) := by omega
          have i3 : ¬ (k : Int) < 6 := by omega
          have he : fieldsK x.l k = fieldsK x.l 6 := fieldsK_end hk6 (by omega)
          have hrow := J1.out.row
          have hl5 := fdL_own hrow rfl
          obtain ⟨va, vc, rfl, -⟩ := hl5.len
          have c0 := J1.out.c0
          have c1 := J1.out.c1
          have r0 := J1.out.r0
          have r1 := J1.out.r1
          have rf0 := J1.out.rf 0
          have rf1 := J1.out.rf 1
          have HEE := Lib.hid he
          have HRW := Lib.hid hrow
          clear he hrow hl5
          go_wp2
          have m5 : Moved (fun j => j = w.heap.size + 1) wr ((wr.setCell ⟨w.heap.size + 1, 0, none⟩ (.string nm)).setCell ⟨w.heap.size + 1, 1, none⟩ (.slice va (fieldsK x.l k).length vc)) := (Kit.Moved.setCell (fun j => j = w.heap.size + 1) wr ⟨w.heap.size + 1, 0, none⟩ _ rfl).trans (Kit.Moved.setCell (fun j => j = w.heap.size + 1) _ ⟨w.heap.size + 1, 1, none⟩ _ rfl) (fun _ _ h => h)
          have hz := J1.out.below.size
          exact bodyPost_ret (v := .agg #[.string nm, .slice va (fieldsK x.l k).length vc]) (by simp [results, Tryz.results33, go_sem, r0, r1]) rfl ⟨⟨_, by rw [HNM.out], by rw [← HEE.out]; exact fdL_own (Kit.ownsRow_kept HRW.out fun j hj => m5.block j (HRW.out.lt j hj).2 (by have h1 := (HRW.out.lt j hj).1; have h2 := J1.out.lt1; have h3 := J1.out.lt2; omega)) rfl, fun j hj => by have h1 := (HRW.out.lt j hj).1; have h2 := J1.out.lt1; have h3 := J1.out.lt2; omega⟩, J1.out.below.trans (m5.below (fun j hj => by omega) (by omega))⟩
      · have i2 : ¬ (k : Int) < (x.l.length : Int) := by omega
        have he : fieldsK x.l k = fieldsK x.l 6 := fieldsK_end hk6 (by omega)
        have hrow := J1.out.row
        have hl5 := fdL_own hrow rfl
        obtain ⟨va, vc, rfl, -⟩ := hl5.len
        have c0 := J1.out.c0
        have c1 := J1.out.c1
        have r0 := J1.out.r0
        have r1 := J1.out.r1
        have rf0 := J1.out.rf 0
        have rf1 := J1.out.rf 1
        have HEE := Lib.hid he
        have HRW := Lib.hid hrow
        clear he hrow hl5
        go_wp2
        have m5 : Moved (fun j => j = w.heap.size + 1) wr ((wr.setCell ⟨w.heap.size + 1, 0, none⟩ (.string nm)).setCell ⟨w.heap.size + 1, 1, none⟩ (.slice va (fieldsK x.l k).length vc)) := (Kit.Moved.setCell (fun j => j = w.heap.size + 1) wr ⟨w.heap.size + 1, 0, none⟩ _ rfl).trans (Kit.Moved.setCell (fun j => j = w.heap.size + 1) _ ⟨w.heap.size + 1, 1, none⟩ _ rfl) (fun _ _ h => h)
        have hz := J1.out.below.size
        exact bodyPost_ret (v := .agg #[.string nm, .slice va (fieldsK x.l k).length vc]) (by simp [results, Tryz.results33, go_sem, r0, r1]) rfl ⟨⟨_, by rw [HNM.out], by rw [← HEE.out]; exact fdL_own (Kit.ownsRow_kept HRW.out fun j hj => m5.block j (HRW.out.lt j hj).2 (by have h1 := (HRW.out.lt j hj).1; have h2 := J1.out.lt1; have h3 := J1.out.lt2; omega)) rfl, fun j hj => by have h1 := (HRW.out.lt j hj).1; have h2 := J1.out.lt1; have h3 := J1.out.lt2; omega⟩, J1.out.below.trans (m5.below (fun j hj => by omega) (by omega))⟩
end Go.Proofs.YtmobnlofbopbeaaGreatDoor.Cls
