/- The document's own numbers as bytes (layer 1), for layer 3's laws. -/
import Derived.Test.YtbmhlpojgiminaaGreatDoorME
import Derived.Test.YtbmhlpojgiminaaGreatDoorWireText
import Derived.Laws.Concat
import Derived.Test.YtbmhlpojgiminaaGreatDoorMG
import Derived.Test.YtbmhlpojgiminaaGreatDoorValEnc
import Derived.Test.YtbmhlpojgiminaaGreatDoorMA
import Derived.Test.YtbmhlpojgiminaaGreatDoorValSign
import Derived.Test.YtbmhlpojgiminaaGreatDoorMD
namespace Go.Proofs.YtbmhlpojgiminaaGreatDoor.Wire
open Go.RowKit
open Kit (ret_int ret_bool Moved)
open Val (NuJ Nums cellsZ intInfo bs bs_append)

attribute [local go_sem] Oper.semAt_some

def gv (l : List (Fin 128)) : List Int := l.map fun g => (g.val : Int)
theorem gv_snoc (l : List (Fin 128)) (g : Fin 128) : gv (l ++ [g]) = gv l ++ [(g.val : Int)] := by simp [gv]
theorem gv_len (l : List (Fin 128)) : (gv l).length = l.length := by simp [gv]
/-- A group's byte. -/
theorem bytesOf_at {g : List (Fin 128)} {i : Nat} {x : Fin 128} (h : g[i]? = some x) : (bytesOf g)[i]? = some (if i + 1 < g.length then (x.val : Int) + 128 else (x.val : Int)) := by
  have hix := (List.getElem?_eq_some_iff.1 h).1
  rcases List.eq_nil_or_concat g with rfl | ⟨p, y, rfl⟩
  · simp at h
  · rw [List.concat_eq_append] at h hix ⊢
    rw [bytesOf_snoc]
    rw [List.length_append, List.length_singleton] at hix ⊢
    by_cases hlt : i < p.length
    · rw [if_pos (by omega), List.getElem?_append_left (by rw [hi_len]; exact hlt)]
      rw [List.getElem?_append_left hlt] at h
      unfold hi
      rw [List.getElem?_map, h]; rfl
    · obtain rfl : i = p.length := by omega
      rw [if_neg (by omega), List.getElem?_append_right (by rw [hi_len]; omega), hi_len, Nat.sub_self]
      rw [List.getElem?_append_right (Nat.le_refl _), Nat.sub_self] at h
      simp only [List.getElem?_cons_zero, Option.some.injEq] at h ⊢
      rw [h]
/-- Groups as bytes. -/
def byB (l : List (Fin 128)) : List UInt8 := (bytesOf l).map fun x => UInt8.ofNat x.toNat
theorem byB_len (l : List (Fin 128)) : (byB l).length = l.length := by unfold byB; rw [List.length_map, bytesOf_len]
/-- The first bytes of groups. -/
def headB (l : List (Fin 128)) (k : Nat) : ByteArray := bs ((byB l).take k)
theorem headB_succ {l : List (Fin 128)} {k : Nat} {x : Fin 128} (h : l[k]? = some x) : headB l (k + 1) = headB l k ++ bs [UInt8.ofNat (if k + 1 < l.length then (x.val : Int) + 128 else (x.val : Int)).toNat] := by
  have h1 : (byB l)[k]? = some (UInt8.ofNat (if k + 1 < l.length then (x.val : Int) + 128 else (x.val : Int)).toNat) := by
    unfold byB
    rw [List.getElem?_map, bytesOf_at h]; rfl
  obtain ⟨hk, he⟩ := List.getElem?_eq_some_iff.1 h1
  unfold headB
  rw [List.take_succ_eq_append_getElem hk, he, ← bs_append]
theorem headB_all (l : List (Fin 128)) : headB l l.length = bs (byB l) := by unfold headB; rw [List.take_of_length_le (by rw [byB_len]; exact Nat.le_refl _)]
theorem headB_size (l : List (Fin 128)) (k : Nat) : (headB l k).size ≤ l.length := by
  unfold headB
  show ((byB l).take k).toArray.size ≤ _
  rw [List.size_toArray, List.length_take, byB_len]; omega
/-- What is left of a number to be cut into groups. -/
def leftG (k m : Nat) : List (Fin 128) := if m = 0 then [] else grp k m
theorem leftG_step {k m : Nat} (h : 0 < m) (hm : m < 128 ^ (k + 1)) : ∃ k', leftG k m = ⟨m % 128, Nat.mod_lt _ (by decide)⟩ :: leftG k' (m / 128) ∧ m / 128 < 128 ^ (k' + 1) := by
  unfold leftG
  rw [if_neg (by omega)]
  cases k with
  | zero =>
    have : m / 128 = 0 := by rw [Nat.pow_one] at hm; omega
    exact ⟨0, by rw [this]; rfl, by rw [this]; decide⟩
  | succ k =>
    refine ⟨k, rfl, ?_⟩
    rw [Nat.pow_succ] at hm
    omega
end Go.Proofs.YtbmhlpojgiminaaGreatDoor.Wire
/- The document's own numbers and texts as bytes (layer 1): the walks. -/
namespace Go.Proofs.YtbmhlpojgiminaaGreatDoor.Wire
open Go.RowKit
open Kit (ret_int ret_bool Moved)
open Val (NuJ Nums cellsZ intInfo bs bs_append)

attribute [local go_sem] Oper.semAt_some

/-- A number's two halves: how far it is from 0, and on which side. -/
theorem fold_parts (n : Int) (h1 : -9223372036854775808 ≤ n) (h2 : n ≤ 9223372036854775807) : ∃ m sg : Nat, m < 9223372036854775808 ∧ sg ≤ 1 ∧ foldN n = 2 * m + sg ∧ ((n < 0 ∧ -1 - n = (m : Int) ∧ sg = 1) ∨ (¬ n < 0 ∧ n = (m : Int) ∧ sg = 0)) := by
  unfold foldN
  by_cases h : n < 0
  · exact ⟨(-1 - n).toNat, 1, by omega, by omega, by rw [if_pos h]; omega, .inl ⟨h, by omega, rfl⟩⟩
  · exact ⟨n.toNat, 0, by omega, by omega, by rw [if_neg h]; omega, .inr ⟨h, by omega, rfl⟩⟩
theorem grp_first (m sg : Nat) (hm : m < 9223372036854775808) (hs : sg ≤ 1) : ∃ g : Fin 128, (g.val : Int) = 2 * ((m : Int) % 64) + sg ∧ grp 9 (2 * m + sg) = [g] ++ leftG 8 (m / 64) ∧ m / 64 < 128 ^ (8 + 1) := by
  refine ⟨⟨(2 * m + sg) % 128, Nat.mod_lt _ (by decide)⟩, ?_, ?_, ?_⟩
  · show (((2 * m + sg) % 128 : Nat) : Int) = _
    omega
  · unfold leftG
    have h64 : (2 * m + sg) / 128 = m / 64 := by omega
    by_cases hz : m / 64 = 0
    · rw [if_pos hz, grp_last (by rw [h64]; exact hz)]; rfl
    · rw [if_neg hz, grp_more (by rw [h64]; exact hz), h64]; rfl
  · have : (128 : Nat) ^ (8 + 1) = 9223372036854775808 := by decide
    omega
theorem byte_str (c : Int) : strOfNums [c] = bs [UInt8.ofNat c.toNat] := rfl

theorem one_cell (w : World) (z : Int) : ∀ (j : Nat) (u : Value), ([.int .i64 z] : List Value)[j]? = some u → (w.alloc (.cells #[.int .i64 z] 3)).cell? ((⟨w.heap.size, 0, none⟩ : Addr).add j) = some u := fun j u hu => by
  rw [Addr.add_mid]
  exact Kit.cell_new w _ _ (0 + j) (by rw [Nat.zero_add, ← Array.getElem?_toList]; exact hu)
theorem one_one (z : Int) : ∀ u ∈ ([.int .i64 z] : List Value), u.oneCell' = true := fun u hu => by rw [List.mem_singleton] at hu; subst hu; rfl
theorem row_none (w : World) (z : Int) : NuJ w [] (.slice none 0 0) (w.alloc (.cells #[.int .i64 z] 3)) := NuJ.later ⟨World.ownsRow_nil _ _ _ _, Below.refl _ _⟩ (Kit.below_alloc w _)

theorem row_first {w w8 : World} {z : Int} {g0 : Fin 128} {v8 : Value} (hz : (g0.val : Int) = z) (hg : (w.alloc (.cells #[.int .i64 z] 3)).grownBy w8 (Value.slice none 0 0).ownBlock) (hown : w8.ownsRow w.heap.size 3 1 v8 (([] : List Int).length + 1) (cellsZ [] ++ [.int .i64 z])) : NuJ w (gv [g0]) v8 w8 := by
  subst hz
  exact (row_none w _).push hg hown
theorem row_next {w wr w8 : World} {q : Nat} {g : List (Fin 128)} {v v8 : Value} (h : NuJ w (gv g) v wr) (hg : (wr.alloc (.cells #[.int .i64 ((q : Int) % 128)] 3)).grownBy w8 v.ownBlock) (hown : w8.ownsRow w.heap.size 3 1 v8 ((gv g).length + 1) (cellsZ (gv g) ++ [.int .i64 ((q : Int) % 128)])) : NuJ w (gv (g ++ [⟨q % 128, Nat.mod_lt _ (by decide)⟩])) v8 w8 := by
  rw [gv_snoc]
  exact (h.later (Kit.below_alloc wr _)).push hg hown

set_option maxRecDepth 100000 in
set_option maxHeartbeats 4000000 in
theorem refNum_any (n : Int) (h1 : -9223372036854775808 ≤ n) (h2 : n ≤ 9223372036854775807) (w : World) :
    Calls Tryz.prog 61 #[.int .i64 n] w fun e w' => e = .returned (.string (bs (numB n))) ∧ Below w.heap.size w w' := by
  obtain ⟨m, sg, hm, hsg, hfold, hs⟩ := fold_parts n h1 h2
  obtain ⟨g0, hg0, hgr, hpow⟩ := grp_first m sg hm hsg
  rw [← hfold] at hgr
  have hlen := grp_len 9 (foldN n)
  rw [show numB n = byB (grp 9 (foldN n)) from rfl]
  generalize grp 9 (foldN n) = GR at *
  obtain ⟨i1, hj0, hk0, hk1, hk2⟩ := info_parts intInfo
  obtain ⟨i5, hj5, hk5, hk6, hk7⟩ := info_parts info5
  have HG := Lib.hid (And.intro hgr (And.intro hpow (And.intro hlen hg0)))
  have HM := Lib.hid hm
  have HX := Lib.hid (show wrap64 ((m : Int) / 64) = ((m / 64 : Nat) : Int) by unfold wrap64; omega)
  clear hfold hgr hpow hlen hm hg0
  rcases hs with ⟨hn, hmn, rfl⟩ | ⟨hn, hmn, rfl⟩
  case' inl =>
    have hw : IntKind.i64.wrap (-1 - n) = (m : Int) := by rw [IntKind.wrap_i64]; have := HM.out; omega
    clear hmn
    go_enter Tryz.func61, Tryz.ntmps61
    go_upto_region 8 with (at_builtin; refine wpList_append_own_at _ rfl _ _ 38 rfl w.heap.size 3 i1 (.int .i64 0) 1 8 Tryz.underlying38 hj0 hk0 hk1 hk2 rfl (by decide) _ _ _ rfl (row_none w (2 * ((m : Int) % 64) + 1)).row ⟨w.heap.size, 0, none⟩ 1 1 [.int .i64 (2 * ((m : Int) % 64) + 1)] rfl rfl (one_cell w _) (one_one _) (by unfold maxLen; decide) (by decide) (by simp) ?_; intro v8 w8 hown8 hg8 hn8 hat8; have J8 : Hid (NuJ w (gv [g0]) v8 w8) := Lib.hid (row_first (by have := HG.out.2.2.2; omega) hg8 hown8); clear hown8 hg8 hn8 hat8)
  case' inr =>
    subst hmn
    go_enter Tryz.func61, Tryz.ntmps61
    go_upto_region 8 with (at_builtin; refine wpList_append_own_at _ rfl _ _ 38 rfl w.heap.size 3 i1 (.int .i64 0) 1 8 Tryz.underlying38 hj0 hk0 hk1 hk2 rfl (by decide) _ _ _ rfl (row_none w (2 * ((m : Int) % 64))).row ⟨w.heap.size, 0, none⟩ 1 1 [.int .i64 (2 * ((m : Int) % 64))] rfl rfl (one_cell w _) (one_one _) (by unfold maxLen; decide) (by decide) (by simp) ?_; intro v8 w8 hown8 hg8 hn8 hat8; have J8 : Hid (NuJ w (gv [g0]) v8 w8) := Lib.hid (row_first (by have := HG.out.2.2.2; omega) hg8 hown8); clear hown8 hg8 hn8 hat8)
  all_goals
    go_wp2_with fail
    go_loopw [3, 5] (fun mv lv wr => ∃ (g : List (Fin 128)) (k q : Nat), mv = .int .i64 (q : Int) ∧ GR = g ++ leftG k q ∧ q < 128 ^ (k + 1) ∧ q < 9223372036854775808 ∧ NuJ w (gv g) lv wr) (fun mv _ _ => (intOf mv).toNat)
    case atStart => exact ⟨[g0], 8, m / 64, by first | rfl | (rw [HX.out]), HG.out.1, HG.out.2.1, by have := HM.out; omega, J8.out⟩
    case round =>
      obtain ⟨g, k, q, rfl, hgq, hqp, hql, hJ⟩ := hrel
      obtain ⟨oa, oc, rfl⟩ := hJ.slice
      have hgl : g.length ≤ 10 := by
        have h := congrArg List.length hgq
        rw [List.length_append] at h
        have := HG.out.2.2.1
        omega
      have hgv := gv_len g
      have J1 := Lib.hid hJ
      clear J8 hJ
      by_cases hz : 0 < q
      · have j1 : (0 : Int) < (q : Int) := by omega
        obtain ⟨k2, he2, hqp2⟩ := leftG_step hz hqp
        have HN := Lib.hid (And.intro (show GR = (g ++ [⟨q % 128, Nat.mod_lt _ (by decide)⟩]) ++ leftG k2 (q / 128) by rw [hgq, he2]; simp) hqp2)
        clear hgq hqp he2 hqp2
        go_upto_region 10 with (at_builtin; refine wpList_append_own_at _ rfl _ _ 38 rfl w.heap.size 3 i1 (.int .i64 0) 1 8 Tryz.underlying38 hj0 hk0 hk1 hk2 rfl (by decide) _ _ _ rfl (J1.out.later (Kit.below_alloc wr (.cells #[.int .i64 ((q : Int) % 128)] 3))).row ⟨wr.heap.size, 0, none⟩ 1 1 [.int .i64 ((q : Int) % 128)] rfl rfl (one_cell wr _) (one_one _) (by unfold maxLen; omega) (by omega) (J1.out.later (Kit.below_alloc wr (.cells #[.int .i64 ((q : Int) % 128)] 3))).below.size ?_; intro v8 w8 hown8 hg8 hn8 hat8; have J9 : Hid (NuJ w (gv (g ++ [⟨q % 128, Nat.mod_lt _ (by decide)⟩])) v8 w8) := Lib.hid (row_next J1.out hg8 hown8); clear hown8 hg8 hn8 hat8 J1)
        go_wp2
        go_roundw
        case rel => exact ⟨_, k2, q / 128, by rfl, HN.out.1, HN.out.2, by omega, J9.out⟩
        case measure => simp [intOf]; omega
      · obtain rfl : q = 0 := by omega
        have hGR : GR = g := by rw [hgq]; unfold leftG; simp
        subst hGR
        have HU := Lib.hid (Nums.of J1.out.row (by rw [hgv]; omega))
        have BW := Lib.hid J1.out.below
        clear hgq hqp hql J1
        generalize wr = W1 at *
        go_wp2_with fail
        go_loopw [6, 7] (fun s i wr => ∃ k : Nat, k ≤ GR.length ∧ i = .int .i64 k ∧ s = .string (headB GR k) ∧ Below W1.heap.size W1 wr) (fun _ i _ => GR.length - (intOf i).toNat)
        case atStart => exact ⟨0, by omega, rfl, rfl, Below.refl _ _⟩
        case round =>
          obtain ⟨k, hk, rfl, rfl, hB⟩ := hrel
          by_cases hlt : k < GR.length
          · have j1 : (k : Int) < (GR.length : Int) := by omega
            obtain ⟨x, hx⟩ : ∃ x, GR[k]? = some x := ⟨_, List.getElem?_eq_getElem hlt⟩
            obtain ⟨a3, c3, e3, -, g3⟩ := HU.out
            cases e3
            obtain ⟨b1, o1, rfl, hb1, d1⟩ := g3 k (x.val : Int) (by unfold gv; rw [List.getElem?_map, hx]; rfl)
            have u1 := (hB.cell (p := ⟨b1, o1 + k, none⟩) hb1).trans d1
            have HB := Lib.hid hB
            have hx128 := x.isLt
            have hsz := headB_size GR k
            have HS := Lib.hid (headB_succ hx)
            clear hx g3 d1 hB
            by_cases hk1 : k + 1 < GR.length
            · have j2 : (k : Int) + 1 < (GR.length : Int) := by omega
              have hu8 : IntKind.u8.wrap ((x.val : Int) + 128) = (x.val : Int) + 128 := by rw [IntKind.wrap_u8]; omega
              have hcv := Kit.conv_own (P := Tryz.prog) (l := [(x.val : Int) + 128]) (World.ownsRow_lit (base := wr.heap.size) (e := 5) (size := 1) wr #[.int .u8 ((x.val : Int) + 128)] 1 (Nat.le_refl _) (by unfold maxLen; decide) rfl) rfl Tryz.underlying99 Tryz.underlying5 Tryz.underlying9
              have hadd : ∀ W, (Op.stringOp .add (headB GR k) (strOfNums [(x.val : Int) + 128])).run Tryz.prog W = .ok (.string (headB GR (k + 1))) W := fun W => by
                rw [HS.out, if_pos hk1]; exact run_string_add_sum _ _ _ (by show _ + 1 ≤ _; omega)
              go_wp2
              go_roundw
              case rel => exact ⟨k + 1, by omega, by go_num, rfl, HB.out.trans ((Kit.below_alloc wr _).mono HB.out.size)⟩
              case measure => simp [intOf]; omega
            · have j2 : ¬ (k : Int) + 1 < (GR.length : Int) := by omega
              have hu8 : IntKind.u8.wrap (x.val : Int) = (x.val : Int) := by rw [IntKind.wrap_u8]; omega
              have hcv := Kit.conv_own (P := Tryz.prog) (l := [(x.val : Int)]) (World.ownsRow_lit (base := wr.heap.size) (e := 5) (size := 1) wr #[.int .u8 (x.val : Int)] 1 (Nat.le_refl _) (by unfold maxLen; decide) rfl) rfl Tryz.underlying99 Tryz.underlying5 Tryz.underlying9
              have hadd : ∀ W, (Op.stringOp .add (headB GR k) (strOfNums [(x.val : Int)])).run Tryz.prog W = .ok (.string (headB GR (k + 1))) W := fun W => by
                rw [HS.out, if_neg hk1]; exact run_string_add_sum _ _ _ (by show _ + 1 ≤ _; omega)
              go_wp2
              go_roundw
              case rel => exact ⟨k + 1, by omega, by go_num, rfl, HB.out.trans ((Kit.below_alloc wr _).mono HB.out.size)⟩
              case measure => simp [intOf]; omega
          · obtain rfl : k = GR.length := by omega
            have j1 : ¬ (GR.length : Int) < (GR.length : Int) := by omega
            have HB := Lib.hid hB
            clear hB
            go_wp2
            go_ret
            exact ⟨by rw [headB_all]; rfl, BW.out.trans (HB.out.mono BW.out.size)⟩

set_option maxRecDepth 100000 in
set_option maxHeartbeats 1000000 in
/-- Text, of a text that is not too long. -/
theorem refText_any (s : ByteArray) (hs : s.size ≤ 10000) (w : World) :
    Calls Tryz.prog 62 #[.string s] w fun e w' => e = .returned (.tuple #[.string (textB s), .int .i64 0]) ∧ Below w.heap.size w w' := by
  have k1 : ¬ (10000 : Int) < (s.size : Int) := by omega
  have hl := numB_len (s.size : Int)
  have hadd : ∀ W, (Op.stringOp .add (bs (numB (s.size : Int))) s).run Tryz.prog W = .ok (.string (textB s)) W := fun W =>
    run_string_add_sum _ _ _ (by show (numB (s.size : Int)).toArray.size + s.size ≤ 9223372036854775807; rw [List.size_toArray]; omega)
  have HN := Lib.hid (fun W => refNum_any (s.size : Int) (by omega) (by omega) W)
  clear hl
  go_enter Tryz.func62, Tryz.ntmps62
  go_wp2_with fail
  refine (HN.out _).mono ?_; rintro e w' ⟨rfl, hB⟩
  go_wp2
  go_ret2
  exact ⟨rfl, hB⟩
end Go.Proofs.YtbmhlpojgiminaaGreatDoor.Wire
/- The document's own answer for values: the bytes of a value, Encode. -/
namespace Go.Proofs.YtbmhlpojgiminaaGreatDoor.Val
open Go.RowKit
open Kit (ret_int ret_bool)
open Wire (numB)

set_option maxRecDepth 100000 in
set_option maxHeartbeats 1000000 in
theorem refBytes_flat (x : Vl) (hi : x.ints) (hs : x.s.size ≤ 10000) (h5 : x.k ≠ 5) (B : Nat) (w : World) (v : Value) (hr : Rep B w x v) :
    Calls Tryz.prog 32 #[v] w fun e w' => e = .returned (.string (bs (encF x))) ∧ Below w.heap.size w w' := by
  obtain ⟨lv, rfl, _⟩ := rep_of hr
  obtain ⟨i1, i2, i3, i4⟩ := hi
  have k5 : (x.k == 5) = false := by simpa using h5
  have hB1 := boxed w x.k x.n x.s lv
  have P := Lib.hid (Kit.box4_new w (.int .i64 x.k) (.int .i64 x.n) (.string x.s) lv 30)
  have l1 := Wire.numB_len x.k
  have l2 := Wire.numB_len x.n
  have l3 := Wire.numB_len (x.s.size : Int)
  have l4 : x.s.data.toList.length = x.s.size := data_len _
  have HN := Lib.hid (And.intro (fun W => Wire.refNum_any x.k i1 i2 W) (fun W => Wire.refNum_any x.n i3 i4 W))
  clear hr h5 i1 i2 i3 i4
  unfold encF
  by_cases h1 : x.k = 1 ∨ x.k = 3 ∨ x.k = 4
  · rw [if_pos h1]
    have hadd := add_bs (P := Tryz.prog) (numB x.k) (numB x.n) (by omega)
    have hk : ((x.k == 1) = true) ∨ ((x.k == 1) = false ∧ (x.k == 3) = true) ∨ ((x.k == 1) = false ∧ (x.k == 3) = false ∧ (x.k == 4) = true) := by
      rcases h1 with h | h | h <;> simp [h]
    clear h1
    rcases hk with k1 | ⟨k1, k3⟩ | ⟨k1, k3, k4⟩
    all_goals
      go_enter Tryz.func32, Tryz.ntmps32
      go_wp2_with fail
      refine (HN.out.1 _).mono ?_; rintro e w' ⟨rfl, hB⟩
      obtain ⟨p0, p1, p2, p3⟩ := P.out.below hB (by simp)
      go_wp2_with fail
      refine (HN.out.2 _).mono ?_; rintro e w2 ⟨rfl, hB2⟩
      go_wp2
      go_ret
      exact ⟨rfl, hB1.trans ((hB.mono hB1.size).trans (hB2.mono (by have := hB.size; have := hB1.size; omega)))⟩
  · rw [if_neg h1]
    have k1 : (x.k == 1) = false := by simp; omega
    have k3 : (x.k == 3) = false := by simp; omega
    have k4 : (x.k == 4) = false := by simp; omega
    by_cases h2 : x.k = 2
    · rw [if_pos h2]
      have k2 : (x.k == 2) = true := by simpa using h2
      have HT := Lib.hid (fun W => Wire.refText_any x.s (by omega) W)
      rw [textB_bs] at HT
      have hadd := add_bs (P := Tryz.prog) (numB x.k) (numB (x.s.size : Int) ++ x.s.data.toList) (by rw [List.length_append]; omega)
      clear h1 h2
      go_enter Tryz.func32, Tryz.ntmps32
      go_wp2_with fail
      refine (HN.out.1 _).mono ?_; rintro e w' ⟨rfl, hB⟩
      obtain ⟨p0, p1, p2, p3⟩ := P.out.below hB (by simp)
      go_wp2_with fail
      refine (HT.out _).mono ?_; rintro e w2 ⟨rfl, hB2⟩
      go_wp2
      go_ret
      exact ⟨rfl, hB1.trans ((hB.mono hB1.size).trans (hB2.mono (by have := hB.size; have := hB1.size; omega)))⟩
    · rw [if_neg h2]
      have k2 : (x.k == 2) = false := by simpa using h2
      clear h1 h2
      go_enter Tryz.func32, Tryz.ntmps32
      go_wp2_with fail
      refine (HN.out.1 _).mono ?_; rintro e w' ⟨rfl, hB⟩
      obtain ⟨p0, p1, p2, p3⟩ := P.out.below hB (by simp)
      go_wp2
      go_ret
      exact ⟨rfl, hB1.trans (hB.mono hB1.size)⟩

set_option maxRecDepth 100000 in
set_option maxHeartbeats 1000000 in
theorem refBytes_list (x : Vl) (he : x.enc) (h5 : x.k = 5) (B : Nat) (w : World) (v : Value) (hB : B ≤ w.heap.size) (hr : Rep B w x v) :
    Calls Tryz.prog 32 #[v] w fun e w' => e = .returned (.string (bs (encV x))) ∧ Below w.heap.size w w' := by
  obtain ⟨lv, rfl, hl⟩ := rep_of hr
  obtain ⟨⟨i1, i2, i3, i4⟩, i5, i6, i7⟩ := he
  have HN := Lib.hid (fun W => Wire.refNum_any x.k i1 i2 W)
  have k1 : (x.k == 1) = false := by rw [h5]; rfl
  have k2 : (x.k == 2) = false := by rw [h5]; rfl
  have k3 : (x.k == 3) = false := by rw [h5]; rfl
  have k4 : (x.k == 4) = false := by rw [h5]; rfl
  have k5 : (x.k == 5) = true := by rw [h5]; rfl
  unfold encV
  rw [if_pos h5]
  obtain ⟨a1, c1, rfl, z1⟩ := hl.len
  have HM := Lib.hid (fun W => Wire.refNum_any (x.l.length : Int) (by omega) (by omega) W)
  have hB1 := boxed w x.k x.n x.s (.slice a1 x.l.length c1)
  have P := Lib.hid (Kit.box4_new w (.int .i64 x.k) (.int .i64 x.n) (.string x.s) (.slice a1 x.l.length c1) 30)
  have l1 := Wire.numB_len x.k
  have l3 := Wire.numB_len (x.l.length : Int)
  have hadd := add_bs (P := Tryz.prog) (numB x.k) (numB (x.l.length : Int)) (by omega)
  have HL := Lib.hid (And.intro hl i7)
  generalize hll : x.l = l at *
  obtain ⟨h0, hh0⟩ : ∃ h0, h0 = numB x.k ++ numB (l.length : Int) := ⟨_, rfl⟩
  have l0 : h0.length ≤ 20 := by rw [hh0, List.length_append]; omega
  rw [← hh0] at hadd ⊢
  clear hr hl h5 i1 i2 i3 i4 i5 i7 hll hh0 z1
  go_enter Tryz.func32, Tryz.ntmps32
  go_wp2_with fail
  refine (HN.out _).mono ?_; rintro e w' ⟨rfl, hB2⟩
  obtain ⟨p0, p1, p2, p3⟩ := P.out.below hB2 (by simp)
  go_wp2_with fail
  refine (HM.out _).mono ?_; rintro e w2 ⟨rfl, hB3⟩
  have hB4 : Below w.heap.size w w2 := hB1.trans ((hB2.mono hB1.size).trans (hB3.mono (by have := hB2.size; have := hB1.size; omega)))
  have Q2 := Lib.hid ((P.out.below hB2 (by simp)).below hB3 (Kit.lt_of_cell p0))
  have L2 := Lib.hid (And.intro (HL.out.1.below hB4 hB) (show B ≤ w2.heap.size by have := hB4.size; omega))
  have B4 := Lib.hid hB4
  obtain ⟨q0, q1, q2, q3⟩ := Q2.out
  clear hB1 hB2 hB3 hB4 p0 p1 p2 p3 P
  go_wp2_with fail
  clear hadd q0 q1 q2 q3
  go_loopw [3, 6] (fun s j wr => ∃ k : Nat, k ≤ l.length ∧ j = .int .i64 k ∧ s = .string (bs (h0 ++ (l.take k).flatMap encF)) ∧ Below w2.heap.size w2 wr) (fun _ j _ => l.length - (intOf j).toNat)
  case atStart => exact ⟨0, by omega, rfl, by simp, Below.refl _ _⟩
  case round =>
    obtain ⟨k, hk, rfl, rfl, hBw⟩ := hrel
    have hsz := hBw.size
    obtain ⟨q0, q1, q2, q3⟩ := Q2.out.below hBw Q2.out.lt
    by_cases hlt : k < l.length
    · obtain ⟨x, hx⟩ : ∃ x, l[k]? = some x := ⟨_, List.getElem?_eq_getElem (by omega)⟩
      obtain ⟨b1, o1, d1, lw1, e1, hb1, ⟨p0, p1, p2, p3⟩, hl1⟩ := (L2.out.1.below hBw L2.out.2).at hx
      cases e1
      obtain ⟨a3, c3, rfl, z3⟩ := hl1.len
      obtain ⟨j1, j2, j3⟩ := HL.out.2 x (List.mem_of_getElem? hx)
      have HX := Lib.hid (refBytes_flat x j1 j2 j3 B wr _ (rep_in hl1))
      have hadd := add_bs (P := Tryz.prog) (h0 ++ (l.take k).flatMap encF) (encF x) (by
        have := encF_len x j2
        have h2 := encFs_len (l.take k) (fun y hy => (HL.out.2 y (List.mem_of_mem_take hy)).2.1)
        rw [List.length_take] at h2
        rw [List.length_append]; omega)
      have HT := Lib.hid (take_flat l k x hx)
      have BW := Lib.hid hBw
      have i1 : (0 : Int) ≤ (k : Int) := by omega
      have i2 : (k : Int) < (l.length : Int) := by omega
      clear hl1 hx j1 j2 j3 z3 hBw
      go_wp2_with fail
      refine HX.out.mono ?_; rintro e w3 ⟨rfl, hB5⟩
      go_wp2
      go_roundw
      case rel =>
        refine ⟨k + 1, by omega, by go_num, ?_, BW.out.trans (hB5.mono hsz)⟩
        rw [HT.out]
      case measure => simp [intOf]; omega
    · have hkl : k = l.length := by omega
      subst hkl
      rw [List.take_length]
      have BW := Lib.hid hBw
      have i2 : ¬ (l.length : Int) < (l.length : Int) := by omega
      clear hBw
      go_wp2
      go_ret
      exact ⟨by rfl, B4.out.trans (BW.out.mono B4.out.size)⟩

theorem refBytes_any (x : Vl) (he : x.enc) (B : Nat) (w : World) (v : Value) (hB : B ≤ w.heap.size) (hr : Rep B w x v) :
    Calls Tryz.prog 32 #[v] w fun e w' => e = .returned (.string (bs (encV x))) ∧ Below w.heap.size w w' := by
  by_cases h5 : x.k = 5
  · exact refBytes_list x he h5 B w v hB hr
  · rw [show encV x = encF x from by unfold encV; rw [if_neg h5]]
    exact refBytes_flat x he.1 he.2.1 h5 B w v hr

set_option maxRecDepth 100000 in
/-- Encode. -/
theorem refEncode_any (x : Vl) (hf : x.fits) (B : Nat) (w : World) (v : Value) (hB : B ≤ w.heap.size) (hr : Rep B w x v) :
    Calls Tryz.prog 8 #[v] w fun e w' => e = .returned (if rightV x then .tuple #[.string (bs (encV x)), .int .i64 0] else .tuple #[.string ⟨#[]⟩, .int .i64 30]) ∧ Below w.heap.size w w' := by
  obtain ⟨lv, rfl, hl⟩ := rep_of hr
  have hB1 := boxed w x.k x.n x.s lv
  have P := Lib.hid (Kit.box4_new w (.int .i64 x.k) (.int .i64 x.n) (.string x.s) lv 30)
  have HR := Lib.hid (refRight_any x hf B _ _ (by simp; omega) (hr.below hB1 hB))
  cases hv : rightV x
  · rw [hv] at HR
    clear hr hl hv
    go_enter Tryz.func8, Tryz.ntmps8
    go_wp2_with fail
    refine HR.out.mono ?_; rintro e w' ⟨rfl, hB2⟩
    go_wp2
    go_ret2
    exact ⟨rfl, hB1.trans (hB2.mono hB1.size)⟩
  · rw [hv] at HR
    have HE := Lib.hid (fun W hW => refBytes_any x (rightV_enc hv) B W _ (by have := Below.size hW; omega) (hr.below (n := w.heap.size) hW hB))
    clear hr hl hv
    go_enter Tryz.func8, Tryz.ntmps8
    go_wp2_with fail
    refine HR.out.mono ?_; rintro e w' ⟨rfl, hB2⟩
    obtain ⟨p0, p1, p2, p3⟩ := P.out.below hB2 (by simp)
    have hB3 := hB1.trans (hB2.mono hB1.size)
    go_wp2_with fail
    refine (HE.out _ hB3).mono ?_; rintro e w2 ⟨rfl, hB4⟩
    go_wp2
    go_ret2
    exact ⟨rfl, hB3.trans (hB4.mono hB3.size)⟩
end Go.Proofs.YtbmhlpojgiminaaGreatDoor.Val
/- The document's own answer for values: how they are written (for ValTells). -/
namespace Go.Proofs.YtbmhlpojgiminaaGreatDoor.Val
open Go.RowKit
open Kit (ret_int ret_bool Moved)

attribute [local go_sem] Oper.semAt_some

abbrev digitsB : ByteArray := ⟨#[48, 49, 50, 51, 52, 53, 54, 55, 56, 57]⟩
theorem digit_str (d : Nat) (h : d < 10) : digitsB.extract d (d + 1) = bs [UInt8.ofNat (48 + d)] := by
  match d, h with
  | 0, _ => rfl
  | 1, _ => rfl
  | 2, _ => rfl
  | 3, _ => rfl
  | 4, _ => rfl
  | 5, _ => rfl
  | 6, _ => rfl
  | 7, _ => rfl
  | 8, _ => rfl
  | 9, _ => rfl

set_option maxRecDepth 100000 in
set_option maxHeartbeats 1000000 in
/-- Digits, of a number that is not below 0. -/
theorem digits_pos (u : Nat) : u ≤ 1000000000000000 → ∀ w : World, Calls Tryz.prog 66 #[.int .i64 (u : Int)] w fun e w' => e = .returned (.string (bs (Lib.decDigits u))) ∧ w = w' := by
  induction u using Nat.strongRecOn with
  | _ u ih =>
    intro hu w
    have hs := digit_str (u % 10) (Nat.mod_lt _ (by decide))
    have m0 : (0 : Int) ≤ (u : Int) % 10 := by omega
    have m1 : (u : Int) % 10 ≤ (u : Int) % 10 + 1 := by omega
    have m2 : (u : Int) % 10 + 1 ≤ 10 := by omega
    have n1 : ((u : Int) % 10).toNat = u % 10 := by omega
    have n2 : ((u : Int) % 10 + 1).toNat = u % 10 + 1 := by omega
    by_cases h : u < 10
    · have h1 : (u : Int) < 10 := by omega
      have HD := Lib.hid (show bs (Lib.decDigits u) = digitsB.extract (u % 10) (u % 10 + 1) by rw [dec_small h, hs, Nat.mod_eq_of_lt h])
      clear ih hs
      go_enter Tryz.func66, Tryz.ntmps66
      go_wp2
      go_ret
      exact ⟨by rw [HD.out, ← n1]; rfl, rfl⟩
    · have h1 : ¬ (u : Int) < 10 := by omega
      have HI := Lib.hid (ih (u / 10) (by omega) (by omega))
      have hl := dec_len 15 (u / 10) (by omega)
      have HD := Lib.hid (show Lib.decDigits u = Lib.decDigits (u / 10) ++ [UInt8.ofNat (48 + u % 10)] from dec_big h)
      have HS := Lib.hid hs
      have ha : ∀ W, (Op.stringOp .add (bs (Lib.decDigits (u / 10))) (bs [UInt8.ofNat (48 + u % 10)])).run Tryz.prog W = .ok (.string (bs (Lib.decDigits (u / 10) ++ [UInt8.ofNat (48 + u % 10)]))) W := fun W => add_bs _ _ (by simp; omega) W
      have hq : (u : Int).tdiv 10 = ((u / 10 : Nat) : Int) := by rw [Int.tdiv_eq_ediv_of_nonneg (by omega)]; push_cast; rfl
      have hwq : IntKind.i64.wrap ((u / 10 : Nat) : Int) = ((u / 10 : Nat) : Int) := by rw [IntKind.wrap_i64]; omega
      clear ih hs
      go_enter Tryz.func66, Tryz.ntmps66
      go_wp2_with fail
      refine (HI.out _).mono ?_; rintro e w' ⟨rfl, rfl⟩
      go_wp2
      go_ret
      exact ⟨by rw [HD.out, ← bs_append, ← HS.out]; rfl, rfl⟩


set_option maxRecDepth 100000 in
set_option maxHeartbeats 1000000 in
/-- Digits. -/
theorem refDigits_any (u : Nat) : u ≤ 1000000000000000 → ∀ w : World, Calls Tryz.prog 66 #[.int .i64 (-(u : Int))] w fun e w' => e = .returned (.string (bs (Lib.itoa (-(u : Int))))) ∧ w = w' := by
  induction u using Nat.strongRecOn with
  | _ u ih =>
    intro hu w
    by_cases h0 : u = 0
    · subst h0
      exact digits_pos 0 (by decide) w
    · by_cases h : u < 10
      · have h1 : (-(u : Int)) < 0 := by omega
        have h2 : ¬ (-(u : Int)) ≤ -10 := by omega
        have HI := Lib.hid (digits_pos u hu)
        have HD := Lib.hid (show Lib.itoa (-(u : Int)) = 45 :: Lib.decDigits u by rw [itoa_neg (by omega)]; congr 2; omega)
        have hl := dec_len 15 u (by omega)
        have ha : ∀ W, (Op.stringOp .add ⟨#[45]⟩ (bs (Lib.decDigits u))).run Tryz.prog W = .ok (.string (bs (45 :: Lib.decDigits u))) W := fun W => add_bs [45] _ (by simp; omega) W
        have hw : IntKind.i64.wrap (u : Int) = (u : Int) := by rw [IntKind.wrap_i64]; omega
        clear ih
        go_enter Tryz.func66, Tryz.ntmps66
        go_wp2_with fail
        refine (HI.out _).mono ?_; rintro e w' ⟨rfl, rfl⟩
        go_wp2
        go_ret
        exact ⟨by rw [HD.out]; rfl, rfl⟩
      · have h1 : (-(u : Int)) < 0 := by omega
        have h2 : (-(u : Int)) ≤ -10 := by omega
        have HI := Lib.hid (ih (u / 10) (by omega) (by omega))
        have HJ := Lib.hid (digits_pos (u % 10) (by omega))
        have hl := itoa_len (n := -((u / 10 : Nat) : Int)) (by omega)
        have HD := Lib.hid (show Lib.itoa (-(u : Int)) = Lib.itoa (-((u / 10 : Nat) : Int)) ++ Lib.decDigits (u % 10) by
          rw [itoa_neg (by omega), itoa_neg (by omega), show (-(u : Int)).natAbs = u by omega, show (-((u / 10 : Nat) : Int)).natAbs = u / 10 by omega, dec_big h, dec_small (Nat.mod_lt u (by decide))]; rfl)
        have ha : ∀ W, (Op.stringOp .add (bs (Lib.itoa (-((u / 10 : Nat) : Int)))) (bs (Lib.decDigits (u % 10)))).run Tryz.prog W = .ok (.string (bs (Lib.itoa (-((u / 10 : Nat) : Int)) ++ Lib.decDigits (u % 10)))) W := fun W => add_bs _ _ (by have := dec_len 0 (u % 10) (by omega); omega) W
        have hq : (-(u : Int)).tdiv 10 = -((u / 10 : Nat) : Int) := by rw [Int.neg_tdiv, Int.tdiv_eq_ediv_of_nonneg (by omega)]; push_cast; rfl
        have hm : (-(u : Int)).tmod 10 = -((u % 10 : Nat) : Int) := by rw [Int.neg_tmod, Int.tmod_eq_emod_of_nonneg (by omega)]; push_cast; rfl
        have hr1 : u % 10 < 10 := Nat.mod_lt u (by decide)
        have hq1 : u / 10 ≤ 1000000000000000 := by omega
        clear ih
        generalize u / 10 = q at *
        generalize u % 10 = r at *
        go_enter Tryz.func66, Tryz.ntmps66
        go_wp2_with fail
        refine (HI.out _).mono ?_; rintro e w' ⟨rfl, rfl⟩
        go_wp2_with fail
        refine (HJ.out _).mono ?_; rintro e w' ⟨rfl, rfl⟩
        go_wp2
        go_ret
        exact ⟨by rw [HD.out]; rfl, rfl⟩

set_option maxRecDepth 100000 in
/-- Text, of a wrong value. -/
theorem Text_wrong (x : Vl) (hf : x.fits) (hx : rightV x = false) (ae : Addr) (w : World) (v : Value) (hE : EnvT ae w) (hr : Rep w.heap.size w x v) :
    Calls Tryz.prog 9 #[v] w fun e w' => e = .returned (.tuple #[.string ⟨#[]⟩, .int .i64 30]) ∧ Below w.heap.size w w' := by
  obtain ⟨lv, rfl, hl⟩ := rep_of hr
  obtain ⟨a, c, rfl, -⟩ := hl.len
  have hB0 := Kit.below_alloc w (.cells #[.int .i64 x.k, .int .i64 x.n, .string x.s, .slice a x.l.length c] 30)
  have HR := Lib.hid (fun W (h : Below w.heap.size w W) => right_any ae x hf W.heap.size W _ (Nat.le_refl _) (hE.below h).env ((hr.below h (Nat.le_refl _)).mono h.size))
  have B0 := Lib.hid hB0
  have A0 := Lib.hid (Kit.box4_new w (.int .i64 x.k) (.int .i64 x.n) (.string x.s) (.slice a x.l.length c) 30)
  rw [hx] at HR
  obtain ⟨p1, p2, p3, p4⟩ := A0.out
  clear hx hE hr hl hB0 hf
  go_enter Tryz.func9, Tryz.ntmps9
  go_wp2_with fail
  refine (HR.out _ B0.out).mono ?_; rintro e w1 ⟨rfl, hB1⟩
  have B1 := Lib.hid (nextT B0.out hB1)
  clear hB1 p1 p2 p3 p4 A0
  go_wp2
  go_ret2
  exact ⟨rfl, B1.out⟩
end Go.Proofs.YtbmhlpojgiminaaGreatDoor.Val
/- The document's own answer for values: a text, written (for ValTells). -/
namespace Go.Proofs.YtbmhlpojgiminaaGreatDoor.Val
open Go.RowKit
open Kit (ret_int ret_bool Moved)

attribute [local go_sem] Oper.semAt_some

theorem one_byte (s : ByteArray) (k : Nat) (h : k < s.size) : s.extract k (k + 1) = bs [UInt8.ofNat (byteN s k)] := by
  rw [← bs_data (s.extract k (k + 1))]
  congr 1
  rw [show byteN s k = (s[k]'h).toNat from (byteN_at s k h).symm]
  have hk : k < s.data.size := h
  rw [ByteArray.data_extract]
  show (s.data.extract k (k + 1)).toList = [UInt8.ofNat (s.data[k]'hk).toNat]
  apply List.ext_getElem
  · simp; omega
  · intro i h1 h2
    have : i = 0 := by simp at h2; omega
    subst this
    simp
theorem esc_next (s : ByteArray) (k : Nat) (h : k < s.size) : escL (s.data.toList.take (k + 1)) = escL (s.data.toList.take k) ++ escB (UInt8.ofNat (byteN s k)) := by
  have hk : k < s.data.toList.length := by simpa using h
  rw [List.take_succ_eq_append_getElem hk, show byteN s k = (s[k]'h).toNat from (byteN_at s k h).symm]
  unfold escL
  rw [List.flatMap_append]
  simp
  rfl

set_option maxRecDepth 100000 in
set_option maxHeartbeats 4000000 in
theorem refQuoted_any (s : ByteArray) (hs : s.size ≤ 60) (w : World) : Calls Tryz.prog 67 #[.string s] w fun e w' => e = .returned (.string (bs (34 :: (escL s.data.toList ++ [34])))) ∧ w = w' := by
  have hE := Lib.hid (esc_len s.data.toList)
  go_enter Tryz.func67, Tryz.ntmps67
  go_wp2
  go_loopw [3, 4] (fun o i wr => ∃ k : Nat, k ≤ s.size ∧ o = .string (bs (34 :: escL (s.data.toList.take k))) ∧ i = .int .i64 k ∧ wr = w) (fun _ i _ => s.size - (intOf i).toNat)
  case atStart => exact ⟨0, by omega, rfl, rfl, rfl⟩
  case round =>
    obtain ⟨k, hk, rfl, rfl, rfl⟩ := hrel
    by_cases hlt : k < s.size
    · have j1 : (k : Int) < (s.size : Int) := by omega
      have hbk := byteN_at s k hlt
      have hx := one_byte s k hlt
      have HN := Lib.hid (esc_next s k hlt)
      have lk := byteN_lt s k
      have hlen := esc_len (s.data.toList.take k)
      have hl2 : (s.data.toList.take k).length ≤ 60 := by simp; omega
      generalize byteN s k = b at *
      generalize escL (s.data.toList.take k) = P at *
      have a1 : ∀ W, (Op.stringOp .add (bs (34 :: P)) ⟨#[92]⟩).run Tryz.prog W = .ok (.string (bs (34 :: (P ++ [92])))) W := fun W => add_bs (34 :: P) [92] (by simp; omega) W
      have a2 : ∀ W, (Op.stringOp .add (bs (34 :: P)) (bs [UInt8.ofNat b])).run Tryz.prog W = .ok (.string (bs (34 :: (P ++ [UInt8.ofNat b])))) W := fun W => add_bs (34 :: P) [UInt8.ofNat b] (by simp; omega) W
      have a3 : ∀ W, (Op.stringOp .add (bs (34 :: (P ++ [92]))) (bs [UInt8.ofNat b])).run Tryz.prog W = .ok (.string (bs (34 :: (P ++ [92, UInt8.ofNat b])))) W := fun W => by
        rw [show 34 :: (P ++ [92, UInt8.ofNat b]) = (34 :: (P ++ [92])) ++ [UInt8.ofNat b] by simp]; exact add_bs _ _ (by simp; omega) W
      have i3 : IntKind.i64.wrap ((k : Int) + 1) = (k : Int) + 1 := by rw [IntKind.wrap_i64]; omega
      by_cases h1 : b = 34
      · subst h1
        have HB := Lib.hid (show escB (UInt8.ofNat 34) = [92, UInt8.ofNat 34] from rfl)
        go_wp2
        go_roundw
        case rel => exact ⟨k + 1, by omega, by rw [HN.out, HB.out, bs_append]; simp, by go_num, trivial⟩
        case measure => simp [intOf]; omega
      by_cases h2 : b = 92
      · subst h2
        have HB := Lib.hid (show escB (UInt8.ofNat 92) = [92, UInt8.ofNat 92] from rfl)
        go_wp2
        go_roundw
        case rel => exact ⟨k + 1, by omega, by rw [HN.out, HB.out, bs_append]; simp, by go_num, trivial⟩
        case measure => simp [intOf]; omega
      have c1 : ((b : Int) == 34) = false := beq_eq_false_iff_ne.2 (by omega)
      have c2 : ((b : Int) == 92) = false := beq_eq_false_iff_ne.2 (by omega)
      have HB := Lib.hid (show escB (UInt8.ofNat b) = [UInt8.ofNat b] by
        unfold escB; rw [if_neg]; rintro (h | h)
        · have := congrArg UInt8.toNat h; simp at this; omega
        · have := congrArg UInt8.toNat h; simp at this; omega)
      go_wp2
      go_roundw
      case rel => exact ⟨k + 1, by omega, by rw [HN.out, HB.out], by go_num, trivial⟩
      case measure => simp [intOf]; omega
    · have j1 : ¬ (k : Int) < (s.size : Int) := by omega
      have ht : s.data.toList.take k = s.data.toList := List.take_of_length_le (by simp; omega)
      rw [ht] at *
      have hz : s.data.toList.length ≤ 60 := by simpa using hs
      have hl := hE.out
      generalize hP : escL s.data.toList = P at *
      have HP := Lib.hid hP; clear hP
      have a1 : ∀ W, (Op.stringOp .add (bs (34 :: P)) ⟨#[34]⟩).run Tryz.prog W = .ok (.string (bs (34 :: (P ++ [34])))) W := fun W => add_bs (34 :: P) [34] (by simp; omega) W
      go_wp2
      go_ret
      exact ⟨by rw [HP.out]; rfl, rfl⟩
end Go.Proofs.YtbmhlpojgiminaaGreatDoor.Val
/- The document's own answer for values: a value that is no list, written (for ValTells). -/
namespace Go.Proofs.YtbmhlpojgiminaaGreatDoor.Val
open Go.RowKit
open Kit (ret_int ret_bool Moved)

attribute [local go_sem] Oper.semAt_some

theorem refDigits_int (n : Int) (h1 : -1000000000000000 ≤ n) (h2 : n ≤ 1000000000000000) (w : World) : Calls Tryz.prog 66 #[.int .i64 n] w fun e w' => e = .returned (.string (bs (Lib.itoa n))) ∧ w = w' := by
  by_cases h : 0 ≤ n
  · obtain ⟨u, rfl⟩ := Int.eq_ofNat_of_zero_le h
    rw [itoa_pos h, Int.toNat_natCast]
    exact digits_pos u (by omega) w
  · obtain ⟨u, rfl⟩ : ∃ u : Nat, n = -(u : Int) := ⟨n.natAbs, by omega⟩
    exact refDigits_any u (by omega) w

set_option maxRecDepth 100000 in
set_option maxHeartbeats 1000000 in
/-- A value that is no list. -/
theorem refWritten_flat (x : Vl) (hx : rightF x = true) (w : World) :
    Calls Tryz.prog 34 #[aggV x.k x.n x.s (.slice none 0 0)] w fun e w' => e = .returned (.string (bs (wrF x))) ∧ Below w.heap.size w w' := by
  have HB := Lib.hid (fun (v0 v1 v2 v3 : Value) => Kit.below_alloc w (.cells #[v0, v1, v2, v3] 30))
  rcases rightF_cases hx with rfl | ⟨k, n, rfl, hk, -, h1, h2⟩ | ⟨t, rfl, ht⟩
  · clear hx
    go_enter Tryz.func34, Tryz.ntmps34
    go_wp2
    go_ret
    exact ⟨rfl, HB.out _ _ _ _⟩
  · have hlen := itoa_len ⟨h1, h2⟩
    have HI := Lib.hid (fun W => refDigits_int n (by omega) (by omega) W)
    have HW1 := Lib.hid (show wrF (flat 1 n (bs [])) = Lib.itoa n from rfl)
    have HW3 := Lib.hid (show wrF (flat 3 n (bs [])) = 64 :: Lib.itoa n from rfl)
    have HW4 := Lib.hid (show wrF (flat 4 n (bs [])) = 126 :: Lib.itoa n from rfl)
    generalize Lib.itoa n = I at *
    have ha1 : ∀ W, (Op.stringOp .add ⟨#[64]⟩ (bs I)).run Tryz.prog W = .ok (.string (bs (64 :: I))) W := fun W => add_bs [64] I (by simp; omega) W
    have ha2 : ∀ W, (Op.stringOp .add ⟨#[126]⟩ (bs I)).run Tryz.prog W = .ok (.string (bs (126 :: I))) W := fun W => add_bs [126] I (by simp; omega) W
    clear hx h1 h2 hlen
    rcases hk with rfl | rfl | rfl
    · go_enter Tryz.func34, Tryz.ntmps34
      go_wp2_with fail
      refine (HI.out _).mono ?_; rintro e w1 ⟨rfl, rfl⟩
      go_wp2
      go_ret
      exact ⟨by rw [HW1.out]; rfl, HB.out _ _ _ _⟩
    · go_enter Tryz.func34, Tryz.ntmps34
      go_wp2_with fail
      refine (HI.out _).mono ?_; rintro e w1 ⟨rfl, rfl⟩
      go_wp2
      go_ret
      exact ⟨by rw [HW3.out]; rfl, HB.out _ _ _ _⟩
    · go_enter Tryz.func34, Tryz.ntmps34
      go_wp2_with fail
      refine (HI.out _).mono ?_; rintro e w1 ⟨rfl, rfl⟩
      go_wp2
      go_ret
      exact ⟨by rw [HW4.out]; rfl, HB.out _ _ _ _⟩
  · have HQ := Lib.hid (fun W => refQuoted_any t (right_txt ht) W)
    have HW2 := Lib.hid (show wrF (flat 2 0 t) = 34 :: (escL t.data.toList ++ [34]) from rfl)
    clear hx ht
    go_enter Tryz.func34, Tryz.ntmps34
    go_wp2_with fail
    refine (HQ.out _).mono ?_; rintro e w1 ⟨rfl, rfl⟩
    go_wp2
    go_ret
    exact ⟨by rw [HW2.out]; rfl, HB.out _ _ _ _⟩
end Go.Proofs.YtbmhlpojgiminaaGreatDoor.Val
/- The document's own answer for values: a list, written; Text. -/
namespace Go.Proofs.YtbmhlpojgiminaaGreatDoor.Val
open Go.RowKit
open Kit (ret_int ret_bool Moved)

attribute [local go_sem] Oper.semAt_some

/-- The first values of a list, written, one blank between. -/
def jn (l : List Vl) (k : Nat) : List UInt8 := Lib.join ((l.take k).map wrF) [32]
theorem jn_zero (l : List Vl) : jn l 0 = [] := rfl
theorem jn_first {l : List Vl} {y : Vl} (h : l[0]? = some y) : jn l 1 = wrF y := by
  cases l with
  | nil => simp at h
  | cons z r =>
    simp only [List.getElem?_cons_zero, Option.some.injEq] at h
    subst h
    exact Lib.join_one _ _
theorem jn_next {l : List Vl} {k : Nat} {y : Vl} (h : l[k]? = some y) (hk : 0 < k) : jn l (k + 1) = jn l k ++ 32 :: wrF y := by
  cases l with
  | nil => simp at h
  | cons z r =>
    obtain ⟨j, rfl⟩ : ∃ j, k = j + 1 := ⟨k - 1, by omega⟩
    have h2 : (r.map wrF)[j]? = some (wrF y) := by rw [List.getElem?_map, show r[j]? = some y by simpa using h]; rfl
    unfold jn
    rw [List.take_succ_cons, List.take_succ_cons, List.map_cons, List.map_cons, Lib.join_cons, Lib.join_cons, List.map_take, List.map_take, Lib.joinTail_take_succ [32] (r.map wrF) j (wrF y) h2]
    simp
theorem jn_len {l : List Vl} (hr : ∀ y ∈ l, rightF y = true) (h12 : l.length ≤ 12) (k : Nat) : (jn l k).length ≤ 2412 := by
  have h := join_len (l.take k) (fun y hy => hr y (List.mem_of_mem_take hy))
  have h2 : (l.take k).length ≤ 12 := by rw [List.length_take]; omega
  unfold jn; omega
theorem jn_all (l : List Vl) : jn l l.length = Lib.join (l.map wrF) [32] := by unfold jn; rw [List.take_length]

set_option maxRecDepth 100000 in
set_option maxHeartbeats 4000000 in
/-- A list. -/
theorem refWritten_list (l : List Vl) (hr : ∀ y ∈ l, rightF y = true) (h12 : l.length ≤ 12) (B : Nat) (w : World) (lv : Value) (hB : B ≤ w.heap.size) (hl : RepL B w l lv) :
    Calls Tryz.prog 34 #[aggV 5 0 ⟨#[]⟩ lv] w fun e w' => e = .returned (.string (bs (91 :: (Lib.join (l.map wrF) [32] ++ [93])))) ∧ Below w.heap.size w w' := by
  obtain ⟨a, c, rfl, -⟩ := hl.len
  have Q2 := Lib.hid (Kit.box4_new w (.int .i64 5) (.int .i64 0) (.string ⟨#[]⟩) (.slice a l.length c) 30)
  have B2 := Lib.hid (Kit.below_alloc w (.cells #[.int .i64 5, .int .i64 0, .string ⟨#[]⟩, .slice a l.length c] 30))
  have L2 := Lib.hid (And.intro (hl.below B2.out hB) (show B ≤ (w.alloc (.cells #[.int .i64 5, .int .i64 0, .string ⟨#[]⟩, .slice a l.length c] 30)).heap.size by have := B2.out.size; omega))
  have HJ := Lib.hid (fun k => jn_len hr h12 k)
  have HR := Lib.hid hr
  have HA := Lib.hid (jn_all l)
  clear hr hl hB
  obtain ⟨q0, q1, q2, q3⟩ := Q2.out
  go_enter Tryz.func34, Tryz.ntmps34
  go_upto_region 1 with fail
  generalize w.alloc (.cells #[.int .i64 5, .int .i64 0, .string ⟨#[]⟩, .slice a l.length c] 30) = w2 at *
  go_wp2_with fail
  clear q0 q1 q2 q3
  go_loopw [3, 4] (fun s j wr => ∃ k : Nat, k ≤ l.length ∧ j = .int .i64 k ∧ s = .string (bs (91 :: jn l k)) ∧ Below w2.heap.size w2 wr) (fun _ j _ => l.length - (intOf j).toNat)
  case atStart => exact ⟨0, by omega, rfl, rfl, Below.refl _ _⟩
  case round =>
    obtain ⟨k, hk, rfl, rfl, hBw⟩ := hrel
    have hsz := hBw.size
    obtain ⟨q0, q1, q2, q3⟩ := Q2.out.below hBw Q2.out.lt
    by_cases hlt : k < l.length
    · obtain ⟨x, hx⟩ : ∃ x, l[k]? = some x := ⟨_, List.getElem?_eq_getElem (by omega)⟩
      have hxr := HR.out x (List.mem_of_getElem? hx)
      have hxl := (rightF_ok hxr).2.2
      have hxw := wrF_len hxr
      obtain ⟨b1, o1, d1, lw1, e1, hb1, ⟨p0, p1, p2, p3⟩, hl1⟩ := (L2.out.1.below hBw L2.out.2).at hx
      cases e1
      rw [hxl] at hl1
      obtain rfl := repL_nl hl1
      have HX := Lib.hid (refWritten_flat x hxr wr)
      have BW := Lib.hid hBw
      have hjl := HJ.out k
      have i1 : (0 : Int) ≤ (k : Int) := by omega
      have i2 : (k : Int) < (l.length : Int) := by omega
      by_cases hk0 : 0 < k
      · have i3 : (0 : Int) < (k : Int) := by omega
        have HN := Lib.hid (jn_next hx hk0)
        obtain ⟨J, hJ⟩ : ∃ J, J = jn l k := ⟨_, rfl⟩
        rw [← hJ] at HN hjl ⊢
        obtain ⟨X, hX⟩ : ∃ X, X = wrF x := ⟨_, rfl⟩
        rw [← hX] at HN HX hxw
        have a1 : ∀ W, (Op.stringOp .add (bs (91 :: J)) ⟨#[32]⟩).run Tryz.prog W = .ok (.string (bs (91 :: (J ++ [32])))) W := fun W => add_bs (91 :: J) [32] (by simp; omega) W
        have a2 : ∀ W, (Op.stringOp .add (bs (91 :: (J ++ [32]))) (bs X)).run Tryz.prog W = .ok (.string (bs (91 :: (J ++ 32 :: X)))) W := fun W => by
          rw [show 91 :: (J ++ 32 :: X) = (91 :: (J ++ [32])) ++ X by simp]; exact add_bs _ _ (by simp; omega) W
        clear hl1 hx hxr hxl hBw hJ hX hjl hxw
        go_wp2_with fail
        refine HX.out.mono ?_; rintro e w3 ⟨rfl, hB5⟩
        go_wp2
        go_roundw
        case rel => exact ⟨k + 1, by omega, by go_num, by rw [HN.out], BW.out.trans (hB5.mono hsz)⟩
        case measure => simp [intOf]; omega
      · obtain rfl : k = 0 := by omega
        simp only [Nat.zero_mul, Nat.add_zero] at p0 p1 p2 p3
        have HN := Lib.hid (jn_first hx)
        obtain ⟨X, hX⟩ : ∃ X, X = wrF x := ⟨_, rfl⟩
        rw [← hX] at HN HX hxw
        have a2 : ∀ W, (Op.stringOp .add (bs (91 :: jn l 0)) (bs X)).run Tryz.prog W = .ok (.string (bs (91 :: X))) W := fun W => by
          rw [jn_zero]; exact add_bs [91] X (by simp; omega) W
        clear hl1 hx hxr hxl hBw hX hjl hxw
        go_wp2_with fail
        refine HX.out.mono ?_; rintro e w3 ⟨rfl, hB5⟩
        go_wp2
        go_roundw
        case rel => exact ⟨1, by omega, by go_num, by rw [HN.out], BW.out.trans (hB5.mono hsz)⟩
        case measure => simp [intOf]; omega
    · have hkl : k = l.length := by omega
      subst hkl
      have hjl := HJ.out l.length
      rw [HA.out] at hjl
      rw [HA.out]
      have BW := Lib.hid hBw
      have i2 : ¬ (l.length : Int) < (l.length : Int) := by omega
      obtain ⟨J, hJ⟩ : ∃ J, J = Lib.join (l.map wrF) [32] := ⟨_, rfl⟩
      rw [← hJ] at hjl ⊢
      have HJe := Lib.hid hJ
      clear hJ
      have a1 : ∀ W, (Op.stringOp .add (bs (91 :: J)) ⟨#[93]⟩).run Tryz.prog W = .ok (.string (bs (91 :: (J ++ [93])))) W := fun W => add_bs (91 :: J) [93] (by simp; omega) W
      clear hBw hjl
      go_wp2
      go_ret
      exact ⟨by rw [← HJe.out]; rfl, B2.out.trans (BW.out.mono B2.out.size)⟩

theorem refWritten_any (x : Vl) (hx : rightV x = true) (B : Nat) (w : World) (v : Value) (hB : B ≤ w.heap.size) (hr : Rep B w x v) :
    Calls Tryz.prog 34 #[v] w fun e w' => e = .returned (.string (bs (wrV x))) ∧ Below w.heap.size w w' := by
  obtain ⟨lv, rfl, hl⟩ := rep_of hr
  by_cases h5 : x.k = 5
  · obtain ⟨he, h12, hall⟩ := rightV_list hx h5
    rw [show wrV x = 91 :: (Lib.join (x.l.map wrF) [32] ++ [93]) by unfold wrV; rw [if_pos h5]]
    have h1 : x.k = 5 ∧ x.n = 0 ∧ x.s = ⟨#[]⟩ := by
      rw [he]; exact ⟨rfl, rfl, rfl⟩
    rw [h1.1, h1.2.1, h1.2.2]
    exact refWritten_list x.l hall h12 B w lv hB hl
  · have hf : rightF x = true := by unfold rightV at hx; rwa [if_neg h5] at hx
    rw [show wrV x = wrF x by unfold wrV; rw [if_neg h5]]
    have h := (rightF_ok hf).2.2
    rw [h] at hl
    obtain rfl := repL_nl hl
    exact refWritten_flat x hf w

set_option maxRecDepth 100000 in
/-- Text. -/
theorem refText_any (x : Vl) (hf : x.fits) (B : Nat) (w : World) (v : Value) (hB : B ≤ w.heap.size) (hr : Rep B w x v) :
    Calls Tryz.prog 10 #[v] w fun e w' => e = .returned (if rightV x then .tuple #[.string (bs (wrV x)), .int .i64 0] else .tuple #[.string ⟨#[]⟩, .int .i64 30]) ∧ Below w.heap.size w w' := by
  obtain ⟨lv, rfl, hl⟩ := rep_of hr
  have hB1 := boxed w x.k x.n x.s lv
  have P := Lib.hid (Kit.box4_new w (.int .i64 x.k) (.int .i64 x.n) (.string x.s) lv 30)
  have HR := Lib.hid (refRight_any x hf B _ _ (by simp; omega) (hr.below hB1 hB))
  cases hv : rightV x
  · rw [hv] at HR
    clear hr hl hv
    go_enter Tryz.func10, Tryz.ntmps10
    go_wp2_with fail
    refine HR.out.mono ?_; rintro e w' ⟨rfl, hB2⟩
    go_wp2
    go_ret2
    exact ⟨rfl, hB1.trans (hB2.mono hB1.size)⟩
  · rw [hv] at HR
    have HE := Lib.hid (fun W hW => refWritten_any x hv B W _ (by have := Below.size hW; omega) (hr.below (n := w.heap.size) hW hB))
    clear hr hl hv
    go_enter Tryz.func10, Tryz.ntmps10
    go_wp2_with fail
    refine HR.out.mono ?_; rintro e w' ⟨rfl, hB2⟩
    obtain ⟨p0, p1, p2, p3⟩ := P.out.below hB2 (by simp)
    have hB3 := hB1.trans (hB2.mono hB1.size)
    go_wp2_with fail
    refine (HE.out _ hB3).mono ?_; rintro e w2 ⟨rfl, hB4⟩
    go_wp2
    go_ret2
    exact ⟨rfl, hB3.trans (hB4.mono hB3.size)⟩
end Go.Proofs.YtbmhlpojgiminaaGreatDoor.Val
/- The document's own answer for values: Zero; the references of a value. -/
namespace Go.Proofs.YtbmhlpojgiminaaGreatDoor.Val
open Go.RowKit
open Kit (ret_int ret_bool Moved)

attribute [local go_sem] Oper.semAt_some

/-- The numbers of a kind, in a value that is no list itself of that kind. -/
theorem refsV_split (K : Int) (hK : K ≠ 5) (x : Vl) (hx : rightV x = true) : (x.k = K → refsV K x = [x.n]) ∧ (x.k ≠ K → refsV K x = numsL K x.l) := by
  unfold refsV
  rw [if_pos hx]
  constructor
  · intro h
    have hf : rightF x = true := by unfold rightV at hx; rwa [if_neg (by rw [h]; exact hK)] at hx
    rw [(rightF_ok hf).2.2]
    unfold numsL
    simp [h]
  · intro h
    unfold numsL
    rw [List.filter_cons, if_neg (by simpa using h)]

set_option maxRecDepth 100000 in
set_option maxHeartbeats 4000000 in
theorem refNumbers_any (K : Int) (hK : K = 3 ∨ K = 4) (x : Vl) (hf : x.fits) (w : World) (v : Value) (hr : Rep w.heap.size w x v) :
    Calls Tryz.prog 42 #[v, .int .i64 K] w fun e w' => (∃ lv, e = .returned lv ∧ Nums w' (refsV K x) lv) ∧ Below w.heap.size w w' := by
  obtain ⟨lv, rfl, hl⟩ := rep_of hr
  obtain ⟨a, c, rfl, -⟩ := hl.len
  have B0 := Lib.hid (Kit.below_alloc w (.cells #[.int .i64 x.k, .int .i64 x.n, .string x.s, .slice a x.l.length c] 30))
  have A0 := Lib.hid (Kit.box4_new w (.int .i64 x.k) (.int .i64 x.n) (.string x.s) (.slice a x.l.length c) 30)
  have HR := Lib.hid (refRight_any x hf _ _ _ (Nat.le_refl _) ((hr.below B0.out (Nat.le_refl _)).mono B0.out.size))
  have HL := Lib.hid hl
  obtain ⟨p1, p2, p3, p4⟩ := A0.out
  clear hr hl hf
  have hK5 : K ≠ 5 := by omega
  go_enter Tryz.func42, Tryz.ntmps42
  go_wp2_with fail
  refine HR.out.mono ?_; rintro e w1 ⟨rfl, hB1⟩
  have B1 := Lib.hid (B0.out.trans (hB1.mono B0.out.size))
  have A1 := Lib.hid (A0.out.below hB1 A0.out.lt)
  obtain ⟨q1, q2, q3, q4⟩ := A1.out
  clear hB1 p1 p2 p3 p4 A0 HR
  cases hx : rightV x
  · have HN := Lib.hid (show refsV K x = [] by unfold refsV; rw [if_neg (by rw [hx]; simp)])
    clear hx
    go_wp2
    go_ret
    exact ⟨⟨_, rfl, by rw [HN.out]; exact Nums.nil _⟩, B1.out⟩
  · obtain ⟨hN1, hN2⟩ := refsV_split K hK5 x hx
    cases hc : x.k == K
    · have HN := Lib.hid (hN2 (by simpa using hc))
      have HF := Lib.hid (rightV_flat hx)
      have h12 := rightV_len hx
      obtain ⟨i1, hj0, hk0, hk1, hk2⟩ := info_parts intInfo
      have L1 := Lib.hid (HL.out.below B1.out (Nat.le_refl _))
      have hsz := B1.out.size
      have N0 : Hid (NuJ w1 [] (.slice none 0 0) w1) := Lib.hid ⟨World.ownsRow_nil _ _ _ _, Below.refl _ _⟩
      clear hx hN1 hN2
      go_wp2_with fail
      clear q1 q2 q3 q4
      go_loopw [6, 7] (fun ov i wr => ∃ k : Nat, k ≤ x.l.length ∧ i = .int .i64 k ∧ NuJ w1 (numsL K (x.l.take k)) ov wr) (fun _ i _ => x.l.length - (intOf i).toNat)
      case atStart => exact ⟨0, by omega, rfl, N0.out⟩
      case round =>
        obtain ⟨k, hk, rfl, hJ⟩ := hrel
        obtain ⟨oa, oc, rfl⟩ := hJ.slice
        have J1 := Lib.hid hJ
        obtain ⟨q1, q2, q3, q4⟩ := A1.out.below J1.out.below A1.out.lt
        clear N0 hJ
        by_cases hlt : k < x.l.length
        · have j1 : (k : Int) < (x.l.length : Int) := by omega
          obtain ⟨y, hy⟩ : ∃ y, x.l[k]? = some y := ⟨_, List.getElem?_eq_getElem hlt⟩
          obtain ⟨b1, o1, d1, lw1, e1, hb1, ⟨u1, u2, u3, u4⟩, -⟩ := (L1.out.below J1.out.below hsz).at hy
          cases e1
          have hzl := numsL_len K x.l k
          have HS := Lib.hid (numsL_succ (K := K) hy)
          clear hy
          obtain ⟨zs, hzs⟩ : ∃ zs, zs = numsL K (x.l.take k) := ⟨_, rfl⟩
          rw [← hzs] at HS J1 hzl ⊢
          clear hzs
          cases hcy : y.k == K
          · have HQ := Lib.hid (show numsL K (x.l.take (k + 1)) = zs by rw [HS.out, hcy]; rfl)
            go_wp2
            go_roundw
            case rel => exact ⟨k + 1, by omega, by go_num, by rw [HQ.out]; exact J1.out⟩
            case measure => simp [intOf]; omega
          · have HQ := Lib.hid (show numsL K (x.l.take (k + 1)) = zs ++ [y.n] by rw [HS.out, hcy]; rfl)
            have J3 := Lib.hid (J1.out.later (Kit.below_alloc wr (.cells #[.int .i64 y.n] 3)))
            have C8 := Lib.hid (show ∀ (j : Nat) (u : Value), ([.int .i64 y.n] : List Value)[j]? = some u → (wr.alloc (.cells #[.int .i64 y.n] 3)).cell? ((⟨wr.heap.size, 0, none⟩ : Addr).add j) = some u from fun j u hu => by
              rw [Addr.add_mid]
              exact Kit.cell_new wr _ _ (0 + j) (by rw [Nat.zero_add, ← Array.getElem?_toList]; exact hu))
            have O8 := Lib.hid (show ∀ u ∈ ([.int .i64 y.n] : List Value), u.oneCell' = true from fun u hu => by rw [List.mem_singleton] at hu; subst hu; rfl)
            clear J1
            go_upto_region 9 with (at_builtin; refine wpList_append_own_at _ rfl _ _ 38 rfl w1.heap.size 3 i1 (.int .i64 0) 1 8 Tryz.underlying38 hj0 hk0 hk1 hk2 rfl (by decide) _ _ _ rfl J3.out.row ⟨wr.heap.size, 0, none⟩ 1 1 [.int .i64 y.n] rfl rfl C8.out O8.out (by unfold maxLen; omega) (by omega) J3.out.below.size ?_; intro v8 W8 hown8 hg8 hn8 hat8; have J4 := Lib.hid (J3.out.push hg8 hown8); clear hown8 hg8 hn8 hat8 J3 C8)
            go_wp2
            go_roundw
            case rel => exact ⟨k + 1, by omega, by go_num, by rw [HQ.out]; exact J4.out⟩
            case measure => simp [intOf]; omega
        · have hkk : k = x.l.length := by omega
          subst hkk
          have j1 : ¬ (x.l.length : Int) < (x.l.length : Int) := by omega
          have HQ := Lib.hid (show Nums wr (refsV K x) (.slice oa (numsL K x.l).length oc) by
            have h := Nums.of J1.out.row (by have := numsL_len K x.l x.l.length; omega)
            rw [HN.out]
            rw [List.take_length] at h
            exact h)
          go_wp2
          go_ret
          exact ⟨⟨_, rfl, HQ.out⟩, B1.out.trans (J1.out.below.mono B1.out.size)⟩
    · have HN := Lib.hid (hN1 (by simpa using hc))
      have HC := Lib.hid (Kit.cell_new w1 #[.int .i64 x.n] 3 0 rfl)
      clear hx hN1 hN2
      go_wp2
      go_ret
      refine ⟨⟨_, rfl, ?_⟩, B1.out.trans ((Kit.below_alloc w1 _).mono B1.out.size)⟩
      rw [HN.out]
      refine ⟨_, _, rfl, by show 1 ≤ maxLen; unfold maxLen; decide, fun i z hz => ⟨w1.heap.size, 0, rfl, by simp, ?_⟩⟩
      cases i with
      | zero =>
        simp only [List.getElem?_cons_zero, Option.some.injEq] at hz
        subst hz
        exact HC.out
      | succ i => simp at hz
theorem refRefs_any (x : Vl) (hf : x.fits) (w : World) (v : Value) (hr : Rep w.heap.size w x v) :
    Calls Tryz.prog 15 #[v] w fun e w' => (∃ lv, e = .returned lv ∧ Nums w' (refsV 3 x) lv) ∧ Below w.heap.size w w' := by
  obtain ⟨lv, rfl, hl⟩ := rep_of hr
  obtain ⟨a, c, rfl, -⟩ := hl.len
  have B0 := Lib.hid (Kit.below_alloc w (.cells #[.int .i64 x.k, .int .i64 x.n, .string x.s, .slice a x.l.length c] 30))
  have HN := Lib.hid (refNumbers_any 3 (.inl rfl) x hf _ _ ((hr.below B0.out (Nat.le_refl _)).mono B0.out.size))
  clear hr hl
  go_enter Tryz.func15, Tryz.ntmps15
  go_wp2_with fail
  refine HN.out.mono ?_; rintro e w1 ⟨⟨lv, rfl, hn⟩, hB1⟩
  have HH := Lib.hid (And.intro hn (B0.out.trans (hB1.mono B0.out.size)))
  clear hn hB1
  go_wp2
  go_ret
  exact ⟨⟨_, rfl, HH.out.1⟩, HH.out.2⟩
theorem refWeaks_any (x : Vl) (hf : x.fits) (w : World) (v : Value) (hr : Rep w.heap.size w x v) :
    Calls Tryz.prog 17 #[v] w fun e w' => (∃ lv, e = .returned lv ∧ Nums w' (refsV 4 x) lv) ∧ Below w.heap.size w w' := by
  obtain ⟨lv, rfl, hl⟩ := rep_of hr
  obtain ⟨a, c, rfl, -⟩ := hl.len
  have B0 := Lib.hid (Kit.below_alloc w (.cells #[.int .i64 x.k, .int .i64 x.n, .string x.s, .slice a x.l.length c] 30))
  have HN := Lib.hid (refNumbers_any 4 (.inr rfl) x hf _ _ ((hr.below B0.out (Nat.le_refl _)).mono B0.out.size))
  clear hr hl
  go_enter Tryz.func17, Tryz.ntmps17
  go_wp2_with fail
  refine HN.out.mono ?_; rintro e w1 ⟨⟨lv, rfl, hn⟩, hB1⟩
  have HH := Lib.hid (And.intro hn (B0.out.trans (hB1.mono B0.out.size)))
  clear hn hB1
  go_wp2
  go_ret
  exact ⟨⟨_, rfl, HH.out.1⟩, HH.out.2⟩

set_option maxRecDepth 100000 in
set_option maxHeartbeats 1000000 in
theorem refZero_any (K O : Int) (w : World) : Calls Tryz.prog 26 #[.agg #[.int .i64 K, .int .i64 O]] w fun e w' => e = .returned (flatV (zeroV K O).k 0 ⟨#[]⟩) ∧ Below w.heap.size w w' := by
  have HT := Lib.hid (refRightType_any K O ((w.alloc (.cells #[.int .i64 K, .int .i64 O] 26)).alloc (.cells #[.int .i64 0, .int .i64 0, .string ⟨#[]⟩, .slice none 0 0] 30)))
  have hB0 := Kit.below_alloc2 w (.cells #[.int .i64 K, .int .i64 O] 26) (.cells #[.int .i64 0, .int .i64 0, .string ⟨#[]⟩, .slice none 0 0] 30)
  have F0 := boxF_new (w.alloc (.cells #[.int .i64 K, .int .i64 O] 26)) (.int .i64 0) (.int .i64 0) (.string ⟨#[]⟩) (.slice none 0 0) 30
  rw [World.size_alloc] at F0
  have C0 := Kit.cell_kept (.cells #[.int .i64 0, .int .i64 0, .string ⟨#[]⟩, .slice none 0 0] 30) (Kit.cell_new w #[.int .i64 K, .int .i64 O] 26 0 rfl)
  have H0 := Lib.hid (And.intro hB0 (And.intro F0 C0))
  clear hB0 F0 C0
  obtain ⟨Z, hZ⟩ : ∃ Z, Z = (zeroV K O).k := ⟨_, rfl⟩
  rw [← hZ]
  have hcs : (rightTy K O = false ∧ Z = 0) ∨ (rightTy K O = true ∧ ((K = 1 ∧ Z = 1) ∨ (K = 2 ∧ Z = 2) ∨ (K = 3 ∧ Z = 0) ∨ (K = 4 ∧ Z = 0) ∨ (K = 5 ∧ Z = 5))) := by
    subst hZ
    cases hr : rightTy K O
    · left; refine ⟨rfl, ?_⟩; unfold zeroV; rw [if_pos (.inl hr)]; rfl
    · right
      refine ⟨rfl, ?_⟩
      have hk : K = 1 ∨ K = 2 ∨ K = 3 ∨ K = 4 ∨ K = 5 := by
        unfold rightTy inK at hr
        split at hr
        · omega
        · simp only [Bool.and_eq_true, decide_eq_true_eq] at hr; omega
      unfold zeroV
      rw [hr]
      rcases hk with rfl | rfl | rfl | rfl | rfl
      · exact .inl ⟨rfl, rfl⟩
      · exact .inr (.inl ⟨rfl, rfl⟩)
      · exact .inr (.inr (.inl ⟨rfl, rfl⟩))
      · exact .inr (.inr (.inr (.inl ⟨rfl, rfl⟩)))
      · exact .inr (.inr (.inr (.inr ⟨rfl, rfl⟩)))
  clear hZ
  rcases hcs with ⟨hr, rfl⟩ | ⟨hr, ⟨rfl, rfl⟩ | ⟨rfl, rfl⟩ | ⟨rfl, rfl⟩ | ⟨rfl, rfl⟩ | ⟨rfl, rfl⟩⟩
  all_goals
    rw [hr] at HT
    clear hr
    go_enter Tryz.func26, Tryz.ntmps26
    go_wp2_with fail
    refine HT.out.mono ?_; rintro e w' ⟨rfl, hB⟩
    have F1 := H0.out.2.1.moved (Kit.Moved.of_below hB) (by simp)
    have c0 := (hB.cell (p := ⟨w.heap.size, 0, none⟩) (by simp; omega)).trans H0.out.2.2
    have B1 := Lib.hid (H0.out.1.trans (hB.mono H0.out.1.size))
    obtain ⟨⟨y0, y1, y2, y3⟩, yf⟩ := F1
    have yf0 := yf 0
    have yf1 := yf 1
    have yf2 := yf 2
    have yf3 := yf 3
    have hsz : w.heap.size + 2 ≤ w'.heap.size := by have := hB.size; simpa using this
    have HZ := Lib.hid hsz
    clear yf hB HT hsz
    go_wp2
    first
    | exact bodyPost_ret (v := flatV 0 0 ⟨#[]⟩) (by simp [results, Tryz.results26, go_sem, y0, y1, y2, y3]) rfl ⟨rfl, B1.out.trans ((end4b (w.heap.size + 1) w' _ _ _ _).below (fun j hj => by omega) (by have := HZ.out; omega))⟩
    | exact bodyPost_ret (v := flatV 1 0 ⟨#[]⟩) (by simp [results, Tryz.results26, go_sem, y0, y1, y2, y3]) rfl ⟨rfl, B1.out.trans ((end4b (w.heap.size + 1) w' _ _ _ _).below (fun j hj => by omega) (by have := HZ.out; omega))⟩
    | exact bodyPost_ret (v := flatV 2 0 ⟨#[]⟩) (by simp [results, Tryz.results26, go_sem, y0, y1, y2, y3]) rfl ⟨rfl, B1.out.trans ((end4b (w.heap.size + 1) w' _ _ _ _).below (fun j hj => by omega) (by have := HZ.out; omega))⟩
    | exact bodyPost_ret (v := flatV 5 0 ⟨#[]⟩) (by simp [results, Tryz.results26, go_sem, y0, y1, y2, y3]) rfl ⟨rfl, B1.out.trans ((end4b (w.heap.size + 1) w' _ _ _ _).below (fun j hj => by omega) (by have := HZ.out; omega))⟩
end Go.Proofs.YtbmhlpojgiminaaGreatDoor.Val
