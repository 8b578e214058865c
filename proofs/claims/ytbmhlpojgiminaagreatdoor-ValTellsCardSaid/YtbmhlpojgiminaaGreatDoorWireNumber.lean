/- Layer 1: the walk of (*reader).number. -/
import Derived.Test.YtbmhlpojgiminaaGreatDoorWireFrom
import Derived.Test.YtbmhlpojgiminaaGreatDoorWireReadMath
import Derived.Deep.RegionWith
import Derived.BigQuiet
import Derived.Deep.QuietTactic
import Derived.Laws.Shifts
import Derived.WalkMore
import Derived.Sort.CutIn
import Derived.StillTailTactics
import Derived.Scope
namespace Go.Proofs.YtbmhlpojgiminaaGreatDoor.Wire
open Go.RowKit Go.Shelf
open Kit (ret_int)

attribute [local go_sem] Oper.semAt_some

/-- What reading a number leaves: of none an error; else the number, and the place moved behind it. -/
def NumberPost (br off : Nat) (s : ByteArray) (a : Int) (ev : Value) (w : World) (e : Ending) (w' : World) : Prop :=
  match readN (bytesAt s a) with
  | none => e = .returned (.tuple #[.int .i64 0, ev]) ∧ Below w.heap.size w w'
  | some r => e = .returned (.tuple #[.int .i64 r.1, .nilIface]) ∧ w.grownBy w' (some br) ∧ w'.cell? ⟨br, off, none⟩ = some (.string s) ∧ w'.cell? ⟨br, off + 1, none⟩ = some (.int .i64 (a + (r.2 : Int))) ∧ w'.frozen? ⟨br, off + 1, none⟩ = false

/-- Between two rounds of reading a number: what its boxes hold. -/
def NumI (w : World) (pre : List (Option UInt8)) (W : World) : Prop :=
  ∃ u c : Nat, goesF (0, 0) pre = some (u, c) ∧ Boxed W w.heap.size 3 (.int .i64 0) ∧ Boxed W (w.heap.size + 1) 109 .nilIface ∧ Boxed W (w.heap.size + 2) 118 (.int .u64 (u : Int)) ∧ Boxed W (w.heap.size + 3) 3 (.int .i64 (7 * (c : Int))) ∧ Below w.heap.size w W
/-- Where a round has left: with an error, or with the number. -/
def NumIx (w : World) (ev : Value) (c : Code) (pre : List (Option UInt8)) (W : World) : Prop :=
  ∃ p x u q, pre = p ++ [x] ∧ goesF (0, 0) p = some (u, q) ∧ Below w.heap.size w W ∧
    ((stepN (u, q) x = .inr none ∧ c = .ret ∧ Boxed W w.heap.size 3 (.int .i64 0) ∧ Boxed W (w.heap.size + 1) 109 ev) ∨
     (∃ v z : Nat, stepN (u, q) x = .inr (some (v, z)) ∧ c = .exit 0 ∧ Boxed W w.heap.size 3 (.int .i64 0) ∧ Boxed W (w.heap.size + 1) 109 .nilIface ∧ Boxed W (w.heap.size + 2) 118 (.int .u64 (v : Int)) ∧ Boxed W (w.heap.size + 3) 3 (.int .i64 (7 * (z : Int)))))

theorem run_shl_u64 {P : Program} (g c : Nat) (hc : c ≤ 10) (W : World) : (Op.shift .shl .u64 ((g : Int) % 128) .i64 (7 * (c : Int))).run P W = .ok (.int .u64 ((g % 128 * 2 ^ (7 * c) % 2 ^ 64 : Nat) : Int)) W := by
  rw [shift_shl_any _ _ _ _ (by omega)]
  have e1 : (7 * (c : Int)).toNat = 7 * c := by omega
  have e2 : IntKind.u64.bits = 64 := rfl
  rw [e1, e2]
  have e3 : IntKind.u64.wrap ((g : Int) % 128 * 2 ^ min (7 * c) 64) = ((g % 128 * 2 ^ (7 * c) % 2 ^ 64 : Nat) : Int) := by
    rw [IntKind.wrap_u64]
    have e4 : (g : Int) % 128 * 2 ^ min (7 * c) 64 = ((g % 128 * 2 ^ min (7 * c) 64 : Nat) : Int) := by push_cast; rfl
    rw [e4]
    have e5 : (18446744073709551616 : Int) = ((2 ^ 64 : Nat) : Int) := by decide
    rw [e5, ← Int.natCast_emod]
    congr 1
    by_cases h : 7 * c ≤ 64
    · rw [Nat.min_eq_left h]
    · obtain rfl : c = 10 := by omega
      rw [show min (7 * 10) 64 = 64 from rfl, Nat.mul_mod_left, show 2 ^ (7 * 10) = 64 * 2 ^ 64 from by decide, ← Nat.mul_assoc, Nat.mul_mod_left]
  rw [e3]
  rfl
theorem run_shr_u64 {P : Program} (v c : Nat) (hc : c ≤ 9) (W : World) : (Op.shift .shr .u64 (v : Int) .i64 (7 * (c : Int))).run P W = .ok (.int .u64 ((v / 2 ^ (7 * c) : Nat) : Int)) W := by
  rw [shift_shr_any _ _ _ _ (by omega)]
  have e1 : (7 * (c : Int)).toNat = 7 * c := by omega
  have e2 : IntKind.u64.bits = 64 := rfl
  rw [e1, e2, Nat.min_eq_left (by omega)]
  have e3 : (v : Int) / 2 ^ (7 * c) = ((v / 2 ^ (7 * c) : Nat) : Int) := by push_cast; rfl
  rw [e3]
  rfl

set_option maxRecDepth 100000 in
set_option maxHeartbeats 2000000 in
theorem number_in (k : Nat) (hk : 3 ≤ k) (br off : Nat) (s : ByteArray) (hs : s.size ≤ 140737488351232) (a : Int) (h1 : -9223372036854775808 ≤ a) (h2 : a ≤ 9223372036854775807) (ev : Value) (ae : Addr) (hev : Hid (ev = .iface 179 (.pointer (some ae)))) (w : World)
    (h0 : 2 < w.heap.size) (hE : w.cell? ⟨2, 0, none⟩ = some ev) (hbr : br < w.heap.size)
    (hr0 : w.cell? ⟨br, off, none⟩ = some (.string s)) (hr1 : w.cell? ⟨br, off + 1, none⟩ = some (.int .i64 a)) (hf1 : w.frozen? ⟨br, off + 1, none⟩ = false) :
    CallsIn Fence.wide k Tryz.prog 106 #[.pointer (some ⟨br, off, none⟩)] w (NumberPost br off s a ev w) := by
  have hk1 : 1 ≤ k := by omega
  refine callsIn_of_wp_marks Tryz.func106 rfl trivial ?_ rfl
  simp only [Tryz.ntmps106, List.size_toArray, List.length_cons, List.length_nil, Nat.reduceAdd, Nat.reduceSub, Array.replicate_succ, Array.replicate_zero, List.push_toArray, List.append_toArray, List.nil_append, List.cons_append]
  gi_wp2
  refine wpIn_wide.2 ?_
  apply wp_scope_straight
  go_wp2
  go_step3
  go_wp2_with fail
  obtain ⟨W0, hW0⟩ : ∃ W0, W0 = (((w.alloc (.cells #[.int .i64 0] 3)).alloc (.cells #[.nilIface] 109)).alloc (.cells #[.int .u64 0] 118)).alloc (.cells #[.int .i64 0] 3) := ⟨_, rfl⟩
  have hB0 : Below w.heap.size w W0 := by
    rw [hW0]; exact ((((Below.refl _ w).alloc (Nat.le_refl _) _).alloc (by simp) _).alloc (by simp; omega) _).alloc (by simp; omega) _
  have hsz : W0.heap.size = w.heap.size + 4 := by rw [hW0]; simp
  have b2 : Boxed W0 w.heap.size 3 (.int .i64 0) := by
    rw [hW0]; exact (((Boxed.new w 3 (.int .i64 0)).alloc _).alloc _).alloc _
  have b3 : Boxed W0 (w.heap.size + 1) 109 .nilIface := by
    have := Boxed.new (w.alloc (.cells #[.int .i64 0] 3)) 109 .nilIface
    rw [World.size_alloc] at this
    rw [hW0]; exact (this.alloc _).alloc _
  have b4 : Boxed W0 (w.heap.size + 2) 118 (.int .u64 0) := by
    have := Boxed.new ((w.alloc (.cells #[.int .i64 0] 3)).alloc (.cells #[.nilIface] 109)) 118 (.int .u64 0)
    rw [World.size_alloc, World.size_alloc] at this
    rw [hW0]; exact this.alloc _
  have b5 : Boxed W0 (w.heap.size + 3) 3 (.int .i64 0) := by
    have := Boxed.new (((w.alloc (.cells #[.int .i64 0] 3)).alloc (.cells #[.nilIface] 109)).alloc (.cells #[.int .u64 0] 118)) 3 (.int .i64 0)
    rw [World.size_alloc, World.size_alloc, World.size_alloc] at this
    rw [hW0]; exact this
  have c0 : W0.cell? ⟨br, off, none⟩ = some (.string s) := (hB0.cell (p := ⟨br, off, none⟩) hbr).trans hr0
  have c1 : W0.cell? ⟨br, off + 1, none⟩ = some (.int .i64 a) := (hB0.cell (p := ⟨br, off + 1, none⟩) hbr).trans hr1
  rw [← hW0]
  clear hW0
  have HS := Lib.hid hsz; clear hsz
  go_still_tail 8, (by kernel_rfl)
  change wpList _ _ _ _ _ W0.drew
  obtain ⟨W2, hW2⟩ : ∃ W2, W2 = W0.drew := ⟨_, rfl⟩
  have hB2 : Below w.heap.size w W2 := by rw [hW2]; exact hB0.drew
  replace b2 : Boxed W2 w.heap.size 3 (.int .i64 0) := by rw [hW2]; exact b2
  replace b3 : Boxed W2 (w.heap.size + 1) 109 .nilIface := by rw [hW2]; exact b3
  replace b4 : Boxed W2 (w.heap.size + 2) 118 (.int .u64 0) := by rw [hW2]; exact b4
  replace b5 : Boxed W2 (w.heap.size + 3) 3 (.int .i64 0) := by rw [hW2]; exact b5
  have hsz2 : W2.heap.size = w.heap.size + 4 := by rw [hW2]; exact HS.out
  rw [← hW2]
  clear hW2 c0 c1 hB0 HS
  have HS2 := Lib.hid hsz2; clear hsz2
  go_wp2_with (go_at_call 118; refine (from_any s a _).mono ?_; rintro e w' ⟨rfl, rfl⟩)
  have bT := Boxed.new W2 123 (.string s)
  have bA := Boxed.new (W2.alloc (.cells #[.string s] 123)) 3 (.int .i64 a)
  rw [World.size_alloc] at bA
  have hB3 : Below w.heap.size w ((W2.alloc (.cells #[.string s] 123)).alloc (.cells #[.int .i64 a] 3)) := (hB2.alloc (by rw [HS2.out]; omega) _).alloc (by rw [World.size_alloc, HS2.out]; omega) _
  have hS3 : ((W2.alloc (.cells #[.string s] 123)).alloc (.cells #[.int .i64 a] 3)).heap.size = w.heap.size + 6 := by rw [World.size_alloc, World.size_alloc, HS2.out]
  refine (wpIn_wide (n := k)).1 ?_
  refine wpIn_rangeFunc_ownG rfl hk1 (gf := 132) (lb := #[.pointer (some ⟨W2.heap.size + 1, 0, none⟩), .pointer (some ⟨W2.heap.size, 0, none⟩)]) rfl trivial (enters_of Tryz.func132 (by kernel_rfl) rfl)
    (from_stops (k - 1) (by omega) (W2.heap.size + 1) W2.heap.size s hs a h1 h2 ev _ (by rw [hS3]; omega) bA.cell (bT.alloc _).cell ((hB3.cell (p := ⟨2, 0, none⟩) h0).trans hE) (by rw [hS3, HS2.out]; omega) (by rw [hS3, HS2.out]; omega)) KeepB.trans (fun W l o o' hl h _ _ => KeepB.put h (by rw [hS3] at hl; rw [HS2.out]; omega) (by rw [hS3] at hl; omega) o') (Below.refl _ _) (fun _ => rfl)
    (NumI w) (NumIx w ev)
    ?hI ?hIx
    ⟨0, 0, rfl, (b2.alloc _).alloc _, (b3.alloc _).alloc _, (b4.alloc _).alloc _, (b5.alloc _).alloc _, hB3⟩
    (fun x => { tmps := #[.pointer (some ⟨br, off, none⟩), undef, .pointer (some ⟨w.heap.size, 0, none⟩), .pointer (some ⟨w.heap.size + 1, 0, none⟩), .pointer (some ⟨w.heap.size + 1 + 1, 0, none⟩), .pointer (some ⟨w.heap.size + 1 + 1 + 1, 0, none⟩), .int .u8 (byteOf x : Int), errOf ev x, undef, .pointer (some ⟨br, off, none⟩), .pointer (some ⟨br, off, none⟩), .pointer (some ⟨br, off, none⟩), .string s, .pointer (some ⟨br, off, none⟩), .pointer (some ⟨br, off, none⟩), .pointer (some ⟨br, off + 1, none⟩), .int .i64 a, .func (.func 132) #[] #[.pointer (some ⟨W2.heap.size + 1, 0, none⟩), .pointer (some ⟨W2.heap.size, 0, none⟩)], .int .u8 (byteOf x : Int), errOf ev x, undef, undef, undef, undef, undef, undef, undef, undef, undef, undef, undef, undef, undef, undef, undef, undef, undef, undef, undef, undef, undef, undef, undef, undef, undef, undef, undef, undef, undef, undef, undef, undef, undef, undef, undef, undef, undef, undef, undef, undef, undef, undef, undef, undef, undef, undef, undef, undef], defers := [] }) ?assign ?body ?done ?stop
  case hI =>
    rintro pre A W row ⟨u, c, hg, e2, e3, e4, e5, hB⟩ hgr hr
    have hr' := fun r e => (hr r e).2
    exact ⟨u, c, hg, Kit.boxed_turn e2 hgr hr', Kit.boxed_turn e3 hgr hr', Kit.boxed_turn e4 hgr hr', Kit.boxed_turn e5 hgr hr', Kit.below_turn hB (Nat.le_refl _) (by rw [hS3]; omega) hgr (fun r e => (hr r e).1)⟩
  case hIx =>
    rintro c pre A W row ⟨p, x, u, q, rfl, hg, hB, hc⟩ hgr hr
    have hr' := fun r e => (hr r e).2
    refine ⟨p, x, u, q, rfl, hg, Kit.below_turn hB (Nat.le_refl _) (by rw [hS3]; omega) hgr (fun r e => (hr r e).1), ?_⟩
    rcases hc with ⟨hst, rfl, e2, e3⟩ | ⟨v, z, hst, rfl, e2, e3, e4, e5⟩
    · exact .inl ⟨hst, rfl, Kit.boxed_turn e2 hgr hr', Kit.boxed_turn e3 hgr hr'⟩
    · exact .inr ⟨v, z, hst, rfl, Kit.boxed_turn e2 hgr hr', Kit.boxed_turn e3 hgr hr', Kit.boxed_turn e4 hgr hr', Kit.boxed_turn e5 hgr hr'⟩
  case assign =>
    intro l x W K hK
    dsimp only [encB]
    gi_wp2
    exact hK
  case body =>
    rintro l pre x W ⟨u, c, hg, e2, e3, e4, e5, hB⟩ hlt
    obtain ⟨hu, hc10⟩ := goesF_bound pre (0, 0) _ hg (by decide) (by decide)
    have hbt := byteOf_lt x
    have hbt2 : (byteOf x : Int) < 256 := by omega
    have c4 := e4.cell
    have f4 := e4.frozen
    have c5 := e5.cell
    have c2 := e2.cell
    have f2 := e2.frozen
    have c3 := e3.cell
    have f3 := e3.frozen
    have hmo : Tryz.prog.follows .mixedOrders = true := by kernel_rfl
    obtain ⟨sh, hsh⟩ : ∃ sh : Nat, sh = byteOf x % 128 * 2 ^ (7 * c) % 2 ^ 64 := ⟨_, rfl⟩
    have hshl := run_shl_u64 (P := Tryz.prog) (byteOf x) c hc10
    rw [← hsh] at hshl
    obtain ⟨v, hv⟩ : ∃ v : Nat, v = nu u (byteOf x % 128) c := ⟨_, rfl⟩
    have hor : bits BinOp.or IntKind.u64 (u : Int) (sh : Int) = (v : Int) := by
      rw [hv, hsh]; exact u64_or_nat u _ hu (Nat.mod_lt _ (by decide))
    have HSH := Lib.hid hsh; clear hsh
    have HV := Lib.hid hv; clear hv
    have HU := Lib.hid hu; clear hu
    gi_upto_region 7 with fail
    gi_cut [8] from 23 (fun s8 wc => s8 = .int .u64 ((byteOf x : Int) % 128) ∧ wc = (W.setCell ⟨w.heap.size + 1 + 1, 0, none⟩ (.int .u64 (v : Int))).drew)
    case first =>
      gi_region_with_o (fail)
      all_goals (gi_wp2; gi_meet; exact ⟨rfl, rfl⟩)
    case rest =>
      obtain ⟨rfl, hW6⟩ := hcut
      have g6 : W.grownBy wc (some (w.heap.size + 1 + 1)) := by
        rw [hW6]
        exact ⟨rfl, rfl, rfl, (grownBy_setCell' W (w.heap.size + 1 + 1) (.int .u64 (v : Int))).size, (grownBy_setCell' W (w.heap.size + 1 + 1) (.int .u64 (v : Int))).block⟩
      have o6 : KeepsOthers W wc := by
        rw [hW6]
        exact (KeepsOthers.setCell W ⟨w.heap.size + 1 + 1, 0, none⟩ (.int .u64 (v : Int))).trans (KeepsOthers.drew _)
      have k6 : KeepB W2.heap.size 2 W wc := by
        have hs2 := HS2.out
        rw [hW6]
        exact ⟨Below.heap_setCell _ _ _ _ (by simp; omega), Below.heap_setCell _ _ _ _ (by have := h0; dsimp only; omega)⟩
      have d2 := e2.kept g6 (fun e => by have := Option.some.inj e; omega)
      have d3 := e3.kept g6 (fun e => by have := Option.some.inj e; omega)
      have d4 : Boxed wc (w.heap.size + 1 + 1) 118 (.int .u64 (v : Int)) := by rw [hW6]; exact e4.set (.int .u64 (v : Int))
      have d5 := e5.kept g6 (fun e => by have := Option.some.inj e; omega)
      have hB6 : Below w.heap.size w wc := hB.trans (Kit.below_of_grownBy g6 (by omega) e4.lt)
      clear hW6 c2 c3 c4 c5 f2 f3 f4 e2 e3 e4 e5 hshl hor
      have c2 := d2.cell
      have f2 := d2.frozen
      have c3 := d3.cell
      have f3 := d3.frozen
      have c4 := d4.cell
      have c5 := d5.cell
      have f5 := d5.frozen
      have cE : wc.cell? ⟨2, 0, none⟩ = some ev := (hB6.cell (p := ⟨2, 0, none⟩) h0).trans hE
      have hn23 : w.heap.size ≠ w.heap.size + 1 := by omega
      have x2 := d2.set (.int .i64 0)
      have x3 := (d3.kept (grownBy_setCell' wc w.heap.size (.int .i64 0)) (fun e => by have := Option.some.inj e; omega)).set ev
      have y2 := x2.kept (grownBy_setCell' _ (w.heap.size + 1) ev) (fun e => by have := Option.some.inj e; omega)
      have xB := (hB6.setCell (p := ⟨w.heap.size, 0, none⟩) (Nat.le_refl _) (.int .i64 0)).setCell (p := ⟨w.heap.size + 1, 0, none⟩) (by simp) ev
      have xO := (o6.trans (KeepsOthers.setCell wc ⟨w.heap.size, 0, none⟩ (.int .i64 0))).trans (KeepsOthers.setCell _ ⟨w.heap.size + 1, 0, none⟩ ev)
      have X2 := Lib.hid y2; clear y2
      have X3 := Lib.hid x3; clear x3
      have XB := Lib.hid xB; clear xB
      have XO := Lib.hid xO; clear xO
      have D2 := Lib.hid d2; clear d2
      have D3 := Lib.hid d3; clear d3
      have hKB : ∀ z : Int, KeepB W2.heap.size 2 W (wc.setCell ⟨w.heap.size + 3, 0, none⟩ (.int .i64 z)) := fun z => by
        have hs2 := HS2.out
        exact k6.trans ⟨Below.heap_setCell _ _ _ _ (by simp; omega), Below.heap_setCell _ _ _ _ (by have := h0; dsimp only; omega)⟩
      have KB' := Lib.hid hKB; clear hKB
      clear x2
      have hev' := hev.out
      subst hev'
      cases x with
      | none =>
        dsimp only [byteOf, errOf]
        gi_wp2
        exact ⟨XO.out.from _, pre, none, u, c, rfl, hg, XB.out, .inl ⟨rfl, rfl, X2.out, X3.out⟩⟩
      | some y =>
        dsimp only [byteOf] at hbt hbt2 HSH HV
        dsimp only [byteOf, errOf]
        have hend : ∀ (B : Nat) (W' : World), W' = ((wc.setCell ⟨w.heap.size, 0, none⟩ (.int .i64 0)).setCell ⟨w.heap.size + 1, 0, none⟩ (.iface 179 (.pointer (some ae)))).drew → stepN (u, c) (some y) = .inr none → KeepsFrom B W W' ∧ NumIx w (.iface 179 (.pointer (some ae))) .ret (pre ++ [some y]) W' := by
          rintro B W' rfl hst
          exact ⟨(XO.out.trans (KeepsOthers.drew _)).from _, pre, some y, u, c, rfl, hg, XB.out.drew, .inl ⟨hst, rfl, X2.out, X3.out⟩⟩
        have HEND := Lib.hid hend; clear hend
        by_cases k1 : 64 ≤ 7 * c
        · have hst : stepN (u, c) (some y) = .inr none := by dsimp only [stepN]; rw [if_pos k1]
          have HST := Lib.hid hst; clear hst
          gi_wp2
          gi_region_with_o (fail)
          all_goals gi_wp2
          all_goals exact HEND.out _ _ rfl HST.out
        · have hc9 : c ≤ 9 := by omega
          have hc63 : 7 * (c : Int) < 64 := by omega
          have hvq : ((v / 2 ^ (7 * c) : Nat) : Int) = (v : Int) / 2 ^ (7 * c) := by push_cast; rfl
          have HVQ := Lib.hid hvq; clear hvq
          by_cases k2 : v / 2 ^ (7 * c) = y.toNat % 128
          · have ht : ((v : Int) / 2 ^ (7 * c) != (y.toNat : Int) % 128) = false := by rw [bne_eq_false_iff_eq, ← HVQ.out, k2]; omega
            have k2' : ¬ nu u (y.toNat % 128) c / 2 ^ (7 * c) ≠ y.toNat % 128 := by rw [← HV.out]; exact fun h => h k2
            clear k2
            have K2 := Lib.hid k2'; clear k2'
            have hpass : (y.toNat = 0 → ¬ 0 < c) → y.toNat < 128 → stepN (u, c) (some y) = .inr (some (v, c)) := fun h3 h4 => by
              dsimp only [stepN]; rw [if_neg k1, if_neg K2.out, if_neg (fun h => h3 h.1 h.2), if_pos h4, HV.out]
            have HPASS := Lib.hid hpass; clear hpass
            by_cases k3 : y.toNat = 0
            · by_cases k4 : 0 < c
              · have hst : stepN (u, c) (some y) = .inr none := by
                  dsimp only [stepN]; rw [if_neg k1, if_neg K2.out, if_pos ⟨k3, k4⟩]
                have HST := Lib.hid hst; clear hst
                have ht3 : ((y.toNat : Int) == 0) = true := by rw [beq_iff_eq]; omega
                have K3 := Lib.hid k3; clear k3 k1
                gi_wp2
                gi_region_with_o (fail)
                all_goals gi_wp2
                all_goals exact HEND.out _ _ rfl HST.out
              · have HST := Lib.hid (HPASS.out (fun _ => k4) (by omega))
                have ht3 : ((y.toNat : Int) == 0) = true := by rw [beq_iff_eq]; omega
                have hy128 : (y.toNat : Int) < 128 := by omega
                have hc0 : 7 * (c : Int) ≤ 0 := by omega
                clear k3 k1 k4
                gi_wp2
                exact ⟨o6.from _, pre, some y, u, c, rfl, hg, hB6, .inr ⟨v, c, HST.out, rfl, D2.out, D3.out, d4, d5⟩⟩
            · have ht3 : ((y.toNat : Int) == 0) = false := by rw [beq_eq_false_iff_ne]; omega
              by_cases k4 : y.toNat < 128
              · have HST := Lib.hid (HPASS.out (fun h => absurd h k3) k4)
                have hy128 : (y.toNat : Int) < 128 := by omega
                clear k3 k1
                gi_wp2
                exact ⟨o6.from _, pre, some y, u, c, rfl, hg, hB6, .inr ⟨v, c, HST.out, rfl, D2.out, D3.out, d4, d5⟩⟩
              · have hst : stepN (u, c) (some y) = .inl (v, c + 1) := by
                  dsimp only [stepN]; rw [if_neg k1, if_neg K2.out, if_neg (fun h => k3 h.1), if_neg k4, HV.out]
                have hgo := goesF_snoc pre (some y) _ _ hg _ hst
                have HGO := Lib.hid hgo; clear hgo hst
                have hy128 : ¬ (y.toNat : Int) < 128 := by omega
                clear k3 k1 k4
                gi_wp2
                have g7 := grownBy_setCell' wc (w.heap.size + 3) (.int .i64 (7 * (c : Int) + 7))
                have z2 := D2.out.kept g7 (fun e => by have := Option.some.inj e; omega)
                have z3 := D3.out.kept g7 (fun e => by have := Option.some.inj e; omega)
                have z4 := d4.kept g7 (fun e => by have := Option.some.inj e; omega)
                have z5 := d5.set (.int .i64 (7 * (c : Int) + 7))
                have z6 : (7 * (c : Int) + 7) = 7 * ((c + 1 : Nat) : Int) := by omega
                refine ⟨(o6.trans (KeepsOthers.setCell _ _ _)).from _, KB'.out _, v, c + 1, HGO.out, z2, z3, z4, ?_, hB6.trans (Kit.below_of_grownBy g7 (by omega) d5.lt)⟩
                rw [← z6]
                exact z5
          · have ht : ((v : Int) / 2 ^ (7 * c) != (y.toNat : Int) % 128) = true := by
              rw [bne_iff_ne, ← HVQ.out]
              intro h
              exact k2 (by omega)
            have hst : stepN (u, c) (some y) = .inr none := by
              dsimp only [stepN]; rw [if_neg k1, if_pos (by rw [← HV.out]; exact k2)]
            have HST := Lib.hid hst; clear hst
            clear k2 k1
            gi_wp2
            gi_region_with_o (fail)
            all_goals gi_wp2
            all_goals exact HEND.out _ _ rfl HST.out
  case done =>
    rintro D ys W hD rfl ⟨u, c, hg, _⟩ hK
    rw [show comes (bytesAt s a) = (bytesAt s a).map some ++ [none] from rfl, goesF_comes] at hg
    cases hg
  case stop =>
    rintro D c pre W hD hSp ⟨p, x, u, q, rfl, hg, hB, hc⟩ hK
    have hDw : w.heap.size ≤ D := by rw [hS3] at hD; omega
    rcases hc with ⟨hst, rfl, e2, e3⟩ | ⟨v, z, hst, rfl, e2, e3, e4, e5⟩
    · have hsc := goes_scan p x none (bytesAt s a) _ _ hg hSp hst
      have hrd : readN (bytesAt s a) = none := by unfold readN; rw [hsc]; rfl
      have hc2 := cell_kept e2.cell (grownBy_putObj' _ D (.deferred none)) (fun r e => by cases e; exact ⟨_, hK, rfl⟩)
      have hc3 := cell_kept e3.cell (grownBy_putObj' _ D (.deferred none)) (fun r e => by cases e; exact ⟨_, hK, rfl⟩)
      have HR := Lib.hid hrd; clear hrd
      gi_wp2
      rw [Exit.noGoto_ret]
      refine ⟨by simp, .inl ⟨_, _, rfl, run_takeDeferred hK, ?_⟩⟩
      refine ⟨.tuple #[.int .i64 0, ev], by simp [results, Tryz.results106, go_sem, hc2, hc3], ?_⟩
      unfold NumberPost
      rw [HR.out]
      exact ⟨rfl, hB.trans (belowK_b (w := w) (Nat.le_refl _) W D _ _ hDw hK rfl rfl)⟩
    · have hsc := goes_scan p x (some (v, z)) (bytesAt s a) _ _ hg hSp hst
      have hrd : readN (bytesAt s a) = some (unfoldN v, z + 1) := by unfold readN; rw [hsc]; rfl
      have hane := bytesAt_in (s := s) (a := a) (fun h => by rw [h, readN_nil] at hrd; cases hrd)
      have HR := Lib.hid hrd; clear hrd
      have hz10 : z ≤ 10 := by
        have := (goesF_bound p (0, 0) _ hg (by decide) (by decide)).2
        have hzq : z = q := stepN_z hst
        omega
      have hzz : 0 ≤ (7 * (z : Int)) ∧ (7 * (z : Int)) ≤ 70 := by omega
      obtain ⟨hz1, hz2⟩ := hzz
      have hw0 : IntKind.i64.wrap (z : Int) = (z : Int) := by rw [IntKind.wrap_i64]; omega
      have hw1 : IntKind.i64.wrap ((z : Int) + 1) = (z : Int) + 1 := by rw [IntKind.wrap_i64]; omega
      have hw2 : IntKind.i64.wrap (a + ((z : Int) + 1)) = a + ((z : Int) + 1) := by rw [IntKind.wrap_i64]; omega
      have c1 : W.cell? ⟨br, off + 1, none⟩ = some (.int .i64 a) := (hB.cell (p := ⟨br, off + 1, none⟩) hbr).trans hr1
      have cf : W.frozen? ⟨br, off + 1, none⟩ = false := (hB.frozen (p := ⟨br, off + 1, none⟩) hbr).trans hf1
      have c5 := e5.cell
      gi_wp2
      go_wp2
      go_still_tail 10, (by kernel_rfl)
      change wpList _ _ _ _ _ W.drew
      obtain ⟨W5, hW5⟩ : ∃ W5, W5 = W.drew := ⟨_, rfl⟩
      replace e2 : Boxed W5 w.heap.size 3 (.int .i64 0) := by rw [hW5]; exact e2
      replace e3 : Boxed W5 (w.heap.size + 1) 109 .nilIface := by rw [hW5]; exact e3
      replace e4 : Boxed W5 (w.heap.size + 2) 118 (.int .u64 (v : Int)) := by rw [hW5]; exact e4
      replace hK : W5.heap[D]? = some (.deferred (some [])) := by rw [hW5]; exact hK
      replace hB : Below w.heap.size w W5 := by rw [hW5]; exact hB.drew
      replace c1 : W5.cell? ⟨br, off + 1, none⟩ = some (.int .i64 a) := by rw [hW5]; exact c1
      replace cf : W5.frozen? ⟨br, off + 1, none⟩ = false := by rw [hW5]; exact cf
      rw [← hW5]
      clear hW5 c5
      clear hw0 hw1 hw2
      have hv64 := stepN_v hst (goesF_bound p (0, 0) _ hg (by decide) (by decide)).1
      clear hst hg
      have hc2 := e2.cell
      have hf2 := e2.frozen
      have hc3 := e3.cell
      have hf3 := e3.frozen
      have hc4 := e4.cell
      have n2 : w.heap.size ≠ br := by omega
      have n3 : w.heap.size + 1 ≠ br := by omega
      have n4 : w.heap.size + 1 + 1 ≠ br := by omega
      go_wp2_with (go_at_call 119; refine (unfold_any v hv64 _).mono ?_; rintro e w' ⟨rfl, rfl⟩)
      rw [Exit.noGoto_ret]
      have g1 := Kit.grownBy_setCellAt W5 ⟨br, off + 1, none⟩ (.int .i64 (a + ((z : Int) + 1)))
      have k2 := e2.kept g1 (fun e => n2 (Option.some.inj e))
      have k3 := e3.kept g1 (fun e => n3 (Option.some.inj e))
      have kD := (KeepsOthers.setCell W5 ⟨br, off + 1, none⟩ (.int .i64 (a + ((z : Int) + 1)))).same D _ hK rfl
      have cA := World.cell?_setCell_same W5 ⟨br, off + 1, none⟩ (.int .i64 (a + ((z : Int) + 1))) c1
      have cB : (W5.setCell ⟨br, off + 1, none⟩ (.int .i64 (a + ((z : Int) + 1)))).cell? ⟨br, off, none⟩ = some (.string s) := by
        rw [World.cell?_setCell_other _ _ _ _ (by simp)]
        exact (hB.cell (p := ⟨br, off, none⟩) hbr).trans hr0
      have cF : (W5.setCell ⟨br, off + 1, none⟩ (.int .i64 (a + ((z : Int) + 1)))).frozen? ⟨br, off + 1, none⟩ = false := by rw [World.frozen?_setCell]; exact cf
      have hG : w.grownBy (W5.setCell ⟨br, off + 1, none⟩ (.int .i64 (a + ((z : Int) + 1)))) (some br) := (Kit.grownBy_of_below hB (some br)).andThen g1 (fun j e => .inr e)
      generalize W5.setCell ⟨br, off + 1, none⟩ (.int .i64 (a + ((z : Int) + 1))) = X1 at *
      have g2 := grownBy_setCell' X1 w.heap.size (.int .i64 (unfoldN v))
      have m2 := k2.set (.int .i64 (unfoldN v))
      have m3 := k3.kept g2 (fun e => by have := Option.some.inj e; omega)
      have mD := (KeepsOthers.setCell X1 ⟨w.heap.size, 0, none⟩ (.int .i64 (unfoldN v))).same D _ kD rfl
      have dA : (X1.setCell ⟨w.heap.size, 0, none⟩ (.int .i64 (unfoldN v))).cell? ⟨br, off + 1, none⟩ = some (.int .i64 (a + ((z : Int) + 1))) := g2.cell cA (fun e => n2 (Option.some.inj e).symm)
      have dB : (X1.setCell ⟨w.heap.size, 0, none⟩ (.int .i64 (unfoldN v))).cell? ⟨br, off, none⟩ = some (.string s) := g2.cell cB (fun e => n2 (Option.some.inj e).symm)
      have dF : (X1.setCell ⟨w.heap.size, 0, none⟩ (.int .i64 (unfoldN v))).frozen? ⟨br, off + 1, none⟩ = false := by rw [World.frozen?_setCell]; exact cF
      have hG2 : w.grownBy (X1.setCell ⟨w.heap.size, 0, none⟩ (.int .i64 (unfoldN v))) (some br) := hG.andThen g2 (fun j e => .inl (by cases e; exact Nat.le_refl _))
      generalize X1.setCell ⟨w.heap.size, 0, none⟩ (.int .i64 (unfoldN v)) = X2 at *
      have g3 := grownBy_setCell' X2 (w.heap.size + 1) .nilIface
      have m2' := m2.kept g3 (fun e => by have := Option.some.inj e; omega)
      have m3' := m3.set .nilIface
      have mD' := (KeepsOthers.setCell X2 ⟨w.heap.size + 1, 0, none⟩ .nilIface).same D _ mD rfl
      have fA : (X2.setCell ⟨w.heap.size + 1, 0, none⟩ .nilIface).cell? ⟨br, off + 1, none⟩ = some (.int .i64 (a + ((z : Int) + 1))) := g3.cell dA (fun e => n3 (Option.some.inj e).symm)
      have fB : (X2.setCell ⟨w.heap.size + 1, 0, none⟩ .nilIface).cell? ⟨br, off, none⟩ = some (.string s) := g3.cell dB (fun e => n3 (Option.some.inj e).symm)
      have fF : (X2.setCell ⟨w.heap.size + 1, 0, none⟩ .nilIface).frozen? ⟨br, off + 1, none⟩ = false := by rw [World.frozen?_setCell]; exact dF
      have hG3 : w.grownBy (X2.setCell ⟨w.heap.size + 1, 0, none⟩ .nilIface) (some br) := hG2.andThen g3 (fun j e => .inl (by cases e; omega))
      generalize X2.setCell ⟨w.heap.size + 1, 0, none⟩ .nilIface = X3 at *
      have g4 := grownBy_putObj' X3 D (.deferred none)
      have r2 := cell_kept m2'.cell g4 (fun r e => by cases e; exact ⟨_, mD', rfl⟩)
      have r3 := cell_kept m3'.cell g4 (fun r e => by cases e; exact ⟨_, mD', rfl⟩)
      refine ⟨by simp, .inl ⟨_, _, rfl, run_takeDeferred mD', ?_⟩⟩
      refine ⟨.tuple #[.int .i64 (unfoldN v), .nilIface], by simp [results, Tryz.results106, go_sem, r2, r3], ?_⟩
      unfold NumberPost
      rw [HR.out]
      refine ⟨rfl, hG3.andThen g4 (fun j e => .inl (by cases e; exact hDw)), cell_kept fB g4 (fun r e => by cases e; exact ⟨_, mD', rfl⟩), ?_, ?_⟩
      · exact cell_kept fA g4 (fun r e => by cases e; exact ⟨_, mD', rfl⟩)
      · exact (frozen_kept fA g4 (fun r e => by cases e; exact ⟨_, mD', rfl⟩)).trans fF
end Go.Proofs.YtbmhlpojgiminaaGreatDoor.Wire
