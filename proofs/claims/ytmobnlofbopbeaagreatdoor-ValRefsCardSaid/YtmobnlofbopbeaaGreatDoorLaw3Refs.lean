/- Layer 3's laws: ValRefs. -/
import Derived.Test.YtmobnlofbopbeaaGreatDoorME
import Derived.Test.YtmobnlofbopbeaaGreatDoorMA
import Derived.Test.YtmobnlofbopbeaaGreatDoorMB
namespace Go.Proofs.YtmobnlofbopbeaaGreatDoor.Val
open Go.RowKit
open Kit (ret_int ret_bool Moved)

attribute [local go_sem] Oper.semAt_some

/-- Two rows of numbers of their own, from W1 on. -/
structure Nu2J (W1 : World) (s t : List Int) (so tw : Value) (W : World) : Prop where
  one : W.ownsRow W1.heap.size 3 1 so s.length (cellsZ s)
  two : W.ownsRow W1.heap.size 3 1 tw t.length (cellsZ t)
  apart : ∀ j, so.ownBlock = some j → tw.ownBlock ≠ some j
  below : Below W1.heap.size W1 W
theorem Nu2J.later {W1 : World} {s t : List Int} {so tw : Value} {W W' : World} (h : Nu2J W1 s t so tw W) (hB : Below W.heap.size W W') : Nu2J W1 s t so tw W' :=
  ⟨Kit.ownsRow_kept h.one (fun j hj => hB.block j (h.one.lt j hj).2), Kit.ownsRow_kept h.two (fun j hj => hB.block j (h.two.lt j hj).2), h.apart, h.below.trans (hB.mono h.below.size)⟩
theorem Nu2J.slice {W1 : World} {s t : List Int} {so tw : Value} {W : World} (h : Nu2J W1 s t so tw W) : (∃ a c, so = .slice a s.length c) ∧ ∃ a c, tw = .slice a t.length c := by
  constructor
  · rcases h.one.2 with ⟨h1, h2⟩ | ⟨g, cap, cur, h1, _⟩
    · exact ⟨none, 0, by rw [h1, h2]⟩
    · exact ⟨_, _, h1⟩
  · rcases h.two.2 with ⟨h1, h2⟩ | ⟨g, cap, cur, h1, _⟩
    · exact ⟨none, 0, by rw [h1, h2]⟩
    · exact ⟨_, _, h1⟩
theorem Nu2J.push1 {W1 : World} {s t : List Int} {z : Int} {so tw so' : Value} {W W' : World} (h : Nu2J W1 s t so tw W) (hg : W.grownBy W' so.ownBlock) (hown : W'.ownsRow W1.heap.size 3 1 so' (s.length + 1) (cellsZ s ++ [.int .i64 z])) (hat : so'.ownBlock = so.ownBlock ∨ so'.ownBlock = some W.heap.size) : Nu2J W1 (s ++ [z]) t so' tw W' := by
  have hm := Kit.Moved.of_grownBy hg
  refine ⟨?_, Kit.ownsRow_kept h.two (fun j hj => hm.block j (h.two.lt j hj).2 (fun e => h.apart j e hj)), fun j hj => ?_, h.below.trans (hm.below (fun j hj => (h.one.lt j hj).1) h.below.size)⟩
  · rw [List.length_append, List.length_singleton]
    unfold cellsZ at hown ⊢
    rw [List.map_append]
    exact hown
  · rcases hat with h2 | h2
    · exact h.apart j (h2 ▸ hj)
    · intro e
      rw [h2] at hj
      have := (h.two.lt j e).2
      cases hj
      omega
theorem Nu2J.push2 {W1 : World} {s t : List Int} {z : Int} {so tw tw' : Value} {W W' : World} (h : Nu2J W1 s t so tw W) (hg : W.grownBy W' tw.ownBlock) (hown : W'.ownsRow W1.heap.size 3 1 tw' (t.length + 1) (cellsZ t ++ [.int .i64 z])) (hat : tw'.ownBlock = tw.ownBlock ∨ tw'.ownBlock = some W.heap.size) : Nu2J W1 s (t ++ [z]) so tw' W' := by
  have hm := Kit.Moved.of_grownBy hg
  refine ⟨Kit.ownsRow_kept h.one (fun j hj => hm.block j (h.one.lt j hj).2 (fun e => h.apart j hj e)), ?_, fun j hj => ?_, h.below.trans (hm.below (fun j hj => (h.two.lt j hj).1) h.below.size)⟩
  · rw [List.length_append, List.length_singleton]
    unfold cellsZ at hown ⊢
    rw [List.map_append]
    exact hown
  · rcases hat with h2 | h2
    · rw [h2]; exact h.apart j hj
    · intro e
      rw [h2] at e
      have := (h.one.lt j hj).2
      cases e
      omega

theorem wrong_not (x : Vl) : rightV (.mk x.k 1152921504606846976 x.s x.l) = false := by
  have hb : ((1152921504606846976 : Int) == 0) = false := by decide
  unfold rightV
  by_cases h5 : x.k = 5
  · rw [if_pos (show (Vl.mk x.k 1152921504606846976 x.s x.l).k = 5 from h5)]
    simp only [Vl.n, hb, Bool.and_false, Bool.false_and]
  · rw [if_neg (show ¬ (Vl.mk x.k 1152921504606846976 x.s x.l).k = 5 from h5)]
    unfold rightF
    by_cases h2 : x.k = 2
    · rw [if_pos (show (Vl.mk x.k 1152921504606846976 x.s x.l).k = 2 from h2)]
      simp only [Vl.n, hb, Bool.and_false, Bool.false_and]
    · rw [if_neg (show ¬ (Vl.mk x.k 1152921504606846976 x.s x.l).k = 2 from h2)]
      have hN : rightN (Vl.mk x.k 1152921504606846976 x.s x.l).k (Vl.mk x.k 1152921504606846976 x.s x.l).n = false := by
        unfold rightN
        split
        · exact hb
        · split
          · simp [Vl.n]
          · split
            · simp [Vl.n]
            · rfl
      rw [hN, Bool.false_and, Bool.false_and]

/-- What lies in memory behind the law's loop. -/
structure RfJ (w : World) (V : Vl) (s t : List Int) (sv tv : Value) (bv : Nat) (lv : Value) (W : World) : Prop where
  v : Bx W bv V lv
  one : Nums W s sv
  two : Nums W t tv
  below : Below w.heap.size w W
theorem RfJ.later {w : World} {V : Vl} {s t : List Int} {sv tv : Value} {bv : Nat} {lv : Value} {W W' : World} (h : RfJ w V s t sv tv bv lv W) (hB : Below W.heap.size W W') : RfJ w V s t sv tv bv lv W' :=
  ⟨h.v.later hB, h.one.later hB, h.two.later hB, next h.below hB⟩

set_option maxRecDepth 100000 in
set_option maxHeartbeats 8000000 in
theorem refs_law (ae : Addr) (x : Raw) (hx : x.Ok) (w : World) (xlv : Value) (hl : RawL w x.l xlv) (hE : EnvT ae w) :
    Calls Tryz.prog 5 #[.agg #[.int .i64 x.k, .int .i64 x.n, .string x.s, xlv]] w fun e w' => e = .returned (.bool true) ∧ Below w.heap.size w w' := by
  have hr := valOf_right x
  have hOf := fun W (h : Below w.heap.size w W) => ValOf_any x hx W xlv (hl.below h)
  unfold OfPost at hOf
  generalize valOf x = V at *
  have hlen := wrV_len hr
  have hleny := encV_len hr
  have hfit := (rightV_enc hr).fits
  have hEn := fun (W : World) (v : Value) (hE' : EnvT ae W) (hv : Rep W.heap.size W V v) => Text_any V hr ae W v hE' hv
  have hEm := fun (W : World) (v : Value) (hE' : Env ae W) (hv : Rep W.heap.size W V v) => Encode_any ae V hfit _ W v (Nat.le_refl _) hE' hv
  simp only [hr, if_true] at hEm
  have hd1 : readR (bs (wrV V)) 0 = .inr (V, ((bs (wrV V)).size : Int)) := by
    have h := readR_full [] [] V hr (.inl rfl)
    rw [List.append_nil, List.nil_append, List.length_nil] at h
    rw [bs_size]; simpa using h
  have hd2 : decR (bs (encV V)) 0 = .inr (V, ((bs (encV V)).size : Int)) := by
    have h := decR_full [] [] V hr
    rw [List.append_nil, List.nil_append, List.length_nil] at h
    rw [bs_size]; simpa using h
  rw [← bs_size] at hlen hleny
  generalize bs (wrV V) = P at *
  generalize bs (encV V) = Q at *
  have HR := Lib.hid (fun (X : Vl) (hX : X.fits) (W : World) (h : Below w.heap.size w W) (v : Value) (hv : Rep W.heap.size W X v) => Refs_any X hX ae W v (hE.below h).env hv)
  have HWk := Lib.hid (fun (X : Vl) (hX : X.fits) (W : World) (h : Below w.heap.size w W) (v : Value) (hv : Rep W.heap.size W X v) => Weaks_any X hX ae W v (hE.below h).env hv)
  have HD := Lib.hid (And.intro hd1 (And.intro hd2 (And.intro (show P.size ≤ 140737488351232 by omega) (And.intro (show Q.size ≤ 140737488351232 by omega) (And.intro hfit hr)))))
  have HS := Lib.hid (And.intro (show refsV 3 V = numsL 3 (V :: V.l) by unfold refsV; rw [if_pos hr]) (show refsV 4 V = numsL 4 (V :: V.l) by unfold refsV; rw [if_pos hr]))
  have HN := Lib.hid (And.intro (show refsV 3 (.mk V.k 1152921504606846976 V.s V.l) = [] by unfold refsV; rw [if_neg (by rw [wrong_not V]; simp)]) (show refsV 4 (.mk V.k 1152921504606846976 V.s V.l) = [] by unfold refsV; rw [if_neg (by rw [wrong_not V]; simp)]))
  have HFX := Lib.hid (show (Vl.mk V.k 1152921504606846976 V.s V.l).fits from ⟨hfit.1, hfit.2⟩)
  have HFl := Lib.hid (rightV_flat hr)
  have h12 := rightV_len hr
  have HE := Lib.hid (fun W (h : Below w.heap.size w W) => hE.below h)
  have HOf := Lib.hid hOf
  have HEn := Lib.hid hEn
  have HEm := Lib.hid hEm
  obtain ⟨xa, xc, rfl, -⟩ := hl.len
  have B0 := Lib.hid (up (Below.refl w.heap.size w) (.cells #[.int .i64 x.k, .int .i64 x.n, .string x.s, .slice xa x.l.length xc] 24))
  have A0 := Lib.hid (Kit.box4_new w (.int .i64 x.k) (.int .i64 x.n) (.string x.s) (.slice xa x.l.length xc) 24)
  obtain ⟨i0, hi0, hz0, hz1, hz2⟩ := info_parts vInfo3
  obtain ⟨i1, hj0, hk0, hk1, hk2⟩ := info_parts intInfo
  clear hE hOf hl hx hr hEn hEm hd1 hd2 hlen hleny hfit
  go_enter Tryz.func5, Tryz.ntmps5
  go_wp2_with fail
  refine (awake3_any ae _ (HE.out _ B0.out).env).mono ?_
  rintro e W1 ⟨rfl, hB⟩
  have B1 := Lib.hid (next B0.out hB)
  obtain ⟨p1, p2, p3, p4⟩ := A0.out.below hB A0.out.lt
  clear hB B0 A0
  go_wp2_with fail
  refine (HOf.out _ B1.out).mono ?_
  rintro e W2 ⟨⟨lv, rfl, hlv, -⟩, hB⟩
  have B2 := Lib.hid (up (next B1.out hB) (.cells #[.int .i64 V.k, .int .i64 V.n, .string V.s, lv] 30))
  have A2 := Lib.hid (Bx.new W2 V _ hlv)
  obtain ⟨va, vc, rfl, -⟩ := hlv.len
  clear hB hlv B1 p1 p2 p3 p4
  obtain ⟨q1, q2, q3, q4⟩ := A2.out.1
  go_upto_region 5 with fail
  generalize W2.alloc (.cells #[.int .i64 V.k, .int .i64 V.n, .string V.s, .slice va V.l.length vc] 30) = W3 at *
  have R1 := Lib.hid (World.ownsRow_lit (base := W3.heap.size) (e := 30) (size := 4) W3 #[.int .i64 V.k, .int .i64 V.n, .string V.s, .slice va V.l.length vc] 1 (Nat.le_refl _) (by unfold maxLen; decide) rfl)
  have L1 := Lib.hid ((A2.out.2).below (Kit.below_alloc W3 (.cells #[.int .i64 V.k, .int .i64 V.n, .string V.s, .slice va V.l.length vc] 30)) (Nat.le_refl _))
  have hsz : W3.heap.size ≤ (W3.alloc (.cells #[.int .i64 V.k, .int .i64 V.n, .string V.s, .slice va V.l.length vc] 30)).heap.size := by simp
  have s4 := Kit.cell_kept (.cells #[.int .i64 V.k, .int .i64 V.n, .string V.s, .slice va V.l.length vc] 30) q4
  go_upto_region 6 with (at_builtin; refine wpList_append_flat rfl _ _ rfl W3.heap.size i0 hi0 hz0 hz1 hz2 _ _ _ rfl R1.out rfl HFl.out L1.out (by omega) hsz ?_; intro v6 W6 hown6 hg6 hn6; obtain ⟨g, gc, rfl, hA⟩ := AllAt.of ⟨_, _, _, rfl⟩ (by omega) hown6; have A6 := Lib.hid hA; have hBz := ((Kit.below_alloc W3 _).trans ((Kit.Moved.of_grownBy hg6).below (fun j hj => (R1.out.lt j hj).1) hsz)); have B6 := Lib.hid (next B2.out hBz); have V6 := Lib.hid (A2.out.later hBz); clear hown6 hg6 hn6 hA hBz)
  clear R1 L1 hsz q1 q2 q3 q4 s4 A2 B2
  have N0 : Hid (Nu2J W6 [] [] (.slice none 0 0) (.slice none 0 0) W6) := Lib.hid ⟨World.ownsRow_nil _ _ _ _, World.ownsRow_nil _ _ _ _, (fun j hj => by cases hj), Below.refl _ _⟩
  go_wp2_with fail
  go_loopw [5, 6, 29] (fun so tw i wr => ∃ k : Nat, k ≤ 1 + V.l.length ∧ i = .int .i64 k ∧ Nu2J W6 (numsL 3 ((V :: V.l).take k)) (numsL 4 ((V :: V.l).take k)) so tw wr) (fun _ _ i _ => 1 + V.l.length - (intOf i).toNat)
  case atStart => exact ⟨0, by omega, rfl, N0.out⟩
  case round =>
    obtain ⟨k, hk, rfl, hJ⟩ := hrel
    obtain ⟨⟨oa, oc, rfl⟩, ⟨ta, tc, rfl⟩⟩ := hJ.slice
    have J1 := Lib.hid hJ
    clear N0 hJ
    by_cases hlt : k < 1 + V.l.length
    · have j1 : (k : Int) < 1 + (V.l.length : Int) := by omega
      obtain ⟨y, hy⟩ : ∃ y, (V :: V.l)[k]? = some y := ⟨_, List.getElem?_eq_getElem (by rw [List.length_cons]; omega)⟩
      obtain ⟨a2, n2, c2, u1, u2, u3, u4⟩ := (A6.out.later J1.out.below) k y hy
      have hzl := numsL_len 3 (V :: V.l) k
      have hzm := numsL_len 4 (V :: V.l) k
      have HS3 := Lib.hid (numsL_succ (K := 3) hy)
      have HS4 := Lib.hid (numsL_succ (K := 4) hy)
      have J2 := Lib.hid (J1.out.later (Kit.below_alloc wr (.cells #[.int .i64 y.k, .int .i64 y.n, .string y.s, .slice a2 n2 c2] 30)))
      have t0 := Kit.cell_new wr #[.int .i64 y.k, .int .i64 y.n, .string y.s, .slice a2 n2 c2] 30 0 rfl
      have t1 := Kit.cell_new wr #[.int .i64 y.k, .int .i64 y.n, .string y.s, .slice a2 n2 c2] 30 1 rfl
      clear hy
      obtain ⟨zs, hzs⟩ : ∃ zs, zs = numsL 3 ((V :: V.l).take k) := ⟨_, rfl⟩
      obtain ⟨zt, hzt⟩ : ∃ zt, zt = numsL 4 ((V :: V.l).take k) := ⟨_, rfl⟩
      rw [← hzs] at HS3 J1 J2 hzl ⊢
      rw [← hzt] at HS4 J1 J2 hzm ⊢
      have HPB := Lib.hid (fun j (hj : (Value.slice oa zs.length oc).ownBlock = some j) => (J1.out.one.lt j hj).2)
      clear hzs hzt J1
      go_upto_region 8 with fail
      clear u1 u2 u3 u4
      generalize wr.alloc (.cells #[.int .i64 y.k, .int .i64 y.n, .string y.s, .slice a2 n2 c2] 30) = W7 at *
      generalize wr.heap.size = pb at *
      have O8 := Lib.hid (show ∀ u ∈ ([.int .i64 y.n] : List Value), u.oneCell' = true from fun u hu => by rw [List.mem_singleton] at hu; subst hu; rfl)
      have C8 := Lib.hid (show ∀ (j : Nat) (u : Value), ([.int .i64 y.n] : List Value)[j]? = some u → (W7.alloc (.cells #[.int .i64 y.n] 3)).cell? ((⟨W7.heap.size, 0, none⟩ : Addr).add j) = some u from fun j u hu => by
        rw [Addr.add_mid]
        exact Kit.cell_new W7 _ _ (0 + j) (by rw [Nat.zero_add, ← Array.getElem?_toList]; exact hu))
      by_cases h3 : y.k = 3
      · have c3 : (y.k == 3) = true := by rw [h3]; rfl
        have c4 : (y.k == 4) = false := by rw [h3]; rfl
        have HQ := Lib.hid (And.intro (show numsL 3 ((V :: V.l).take (k + 1)) = zs ++ [y.n] by rw [HS3.out, c3]; rfl) (show numsL 4 ((V :: V.l).take (k + 1)) = zt by rw [HS4.out, c4]; rfl))
        have J3 := Lib.hid (J2.out.later (Kit.below_alloc W7 (.cells #[.int .i64 y.n] 3)))
        have t0' := Kit.cell_kept (.cells #[.int .i64 y.n] 3) t0
        clear h3 J2
        go_upto_region 10 with (at_builtin; refine wpList_append_own_at _ rfl _ _ 38 rfl W6.heap.size 3 i1 (.int .i64 0) 1 8 Tryz.underlying38 hj0 hk0 hk1 hk2 rfl (by decide) _ _ _ rfl J3.out.one ⟨W7.heap.size, 0, none⟩ 1 1 [.int .i64 y.n] rfl rfl C8.out O8.out (by unfold maxLen; omega) (by omega) J3.out.below.size ?_; intro v8 W8 hown8 hg8 hn8 hat8; have J4 := Lib.hid (J3.out.push1 hg8 hown8 hat8); have t2 := cell_moved t0' (Kit.Moved.of_grownBy hg8) (fun e => by have := HPB.out _ e; omega); clear hown8 hg8 hn8 hat8 J3 C8)
        go_wp2
        go_roundw
        case rel => exact ⟨k + 1, by omega, by go_num, by rw [HQ.out.1, HQ.out.2]; exact J4.out⟩
        case measure => simp [intOf]; omega
      · have c3 : (y.k == 3) = false := beq_eq_false_iff_ne.2 h3
        by_cases h4 : y.k = 4
        · have c4 : (y.k == 4) = true := by rw [h4]; rfl
          have HQ := Lib.hid (And.intro (show numsL 3 ((V :: V.l).take (k + 1)) = zs by rw [HS3.out, c3]; rfl) (show numsL 4 ((V :: V.l).take (k + 1)) = zt ++ [y.n] by rw [HS4.out, c4]; rfl))
          have J3 := Lib.hid (J2.out.later (Kit.below_alloc W7 (.cells #[.int .i64 y.n] 3)))
          clear h3 h4 J2
          go_upto_region 12 with (at_builtin; refine wpList_append_own_at _ rfl _ _ 38 rfl W6.heap.size 3 i1 (.int .i64 0) 1 8 Tryz.underlying38 hj0 hk0 hk1 hk2 rfl (by decide) _ _ _ rfl J3.out.two ⟨W7.heap.size, 0, none⟩ 1 1 [.int .i64 y.n] rfl rfl C8.out O8.out (by unfold maxLen; omega) (by omega) J3.out.below.size ?_; intro v8 W8 hown8 hg8 hn8 hat8; have J4 := Lib.hid (J3.out.push2 hg8 hown8 hat8); clear hown8 hg8 hn8 hat8 J3 C8)
          go_wp2
          go_roundw
          case rel => exact ⟨k + 1, by omega, by go_num, by rw [HQ.out.1, HQ.out.2]; exact J4.out⟩
          case measure => simp [intOf]; omega
        · have c4 : (y.k == 4) = false := beq_eq_false_iff_ne.2 h4
          have HQ := Lib.hid (And.intro (show numsL 3 ((V :: V.l).take (k + 1)) = zs by rw [HS3.out, c3]; rfl) (show numsL 4 ((V :: V.l).take (k + 1)) = zt by rw [HS4.out, c4]; rfl))
          clear h3 h4 C8
          go_wp2
          go_roundw
          case rel => exact ⟨k + 1, by omega, by go_num, by rw [HQ.out.1, HQ.out.2]; exact J2.out⟩
          case measure => simp [intOf]; omega
    · have hkk : k = 1 + V.l.length := by omega
      subst hkk
      have j1 : ¬ ((1 + V.l.length : Nat) : Int) < 1 + (V.l.length : Int) := by omega
      have hT : ∀ K, (numsL K ((V :: V.l).take (1 + V.l.length))) = numsL K (V :: V.l) := fun K => by rw [List.take_of_length_le (by rw [List.length_cons]; omega)]
      have K1 : Hid (RfJ w V (refsV 3 V) (refsV 4 V) (.slice oa (numsL 3 ((V :: V.l).take (1 + V.l.length))).length oc) (.slice ta (numsL 4 ((V :: V.l).take (1 + V.l.length))).length tc) W2.heap.size (.slice va V.l.length vc) wr) := Lib.hid
        ⟨V6.out.later J1.out.below, by
          have h := Nums.of J1.out.one (by have := numsL_len 3 (V :: V.l) (1 + V.l.length); omega)
          rw [HS.out.1, ← hT 3]; exact h, by
          have h := Nums.of J1.out.two (by have := numsL_len 4 (V :: V.l) (1 + V.l.length); omega)
          rw [HS.out.2, ← hT 4]; exact h, next B6.out J1.out.below⟩
      generalize (numsL 3 ((V :: V.l).take (1 + V.l.length))).length = n3 at *
      generalize (numsL 4 ((V :: V.l).take (1 + V.l.length))).length = n4 at *
      clear J1 A6 B6 V6 hT

      obtain ⟨q1, q2, q3, q4⟩ := K1.out.v.1
      go_wp2_with fail
      refine (HEn.out _ _ (HE.out _ K1.out.below) K1.out.v.rep).mono ?_
      rintro e W11 ⟨rfl, hB⟩
      have K2 := Lib.hid (K1.out.later hB)
      clear hB K1 q1 q2 q3 q4
      go_wp2_with fail
      refine (Read_any ae _ HD.out.2.2.1 _ _ (HE.out _ K2.out.below).env).mono ?_
      rintro e W12 ⟨hp, hB⟩
      rw [HD.out.1] at hp
      obtain ⟨l2, rfl, hlv, -⟩ := hp
      obtain ⟨ua, uc, rfl, -⟩ := hlv.len
      have K3 := Lib.hid ((K2.out.later hB).later (Kit.below_alloc W12 (.cells #[.int .i64 V.k, .int .i64 V.n, .string V.s, .slice ua V.l.length uc] 30)))
      have F3 := Lib.hid (Bx.new W12 V _ hlv)
      clear hB hlv K2
      obtain ⟨q1, q2, q3, q4⟩ := K3.out.v.1
      go_wp2_with fail
      refine (HEm.out _ _ (HE.out _ K3.out.below).env K3.out.v.rep).mono ?_
      rintro e W13 ⟨rfl, hB⟩
      have K4 := Lib.hid (K3.out.later hB)
      have F4 := Lib.hid (F3.out.later hB)
      clear hB K3 F3 q1 q2 q3 q4
      go_wp2_with fail
      refine (Decode_any ae _ HD.out.2.2.2.1 _ _ (HE.out _ K4.out.below).env).mono ?_
      rintro e W14 ⟨hp, hB⟩
      rw [HD.out.2.1] at hp
      obtain ⟨l2, rfl, hlv, -⟩ := hp
      obtain ⟨ta2, tc2, rfl, -⟩ := hlv.len
      have K5 := Lib.hid ((K4.out.later hB).later (Kit.below_alloc W14 (.cells #[.int .i64 V.k, .int .i64 V.n, .string V.s, .slice ta2 V.l.length tc2] 30)))
      have F5 := Lib.hid ((F4.out.later hB).later (Kit.below_alloc W14 (.cells #[.int .i64 V.k, .int .i64 V.n, .string V.s, .slice ta2 V.l.length tc2] 30)))
      have G5 := Lib.hid (Bx.new W14 V _ hlv)
      clear hB hlv K4 F4
      obtain ⟨q1, q2, q3, q4⟩ := K5.out.v.1
      go_upto_region 17 with fail
      generalize W14.alloc (.cells #[.int .i64 V.k, .int .i64 V.n, .string V.s, .slice ta2 V.l.length tc2] 30) = W15 at *
      generalize W14.heap.size = b16 at *
      have K6 := Lib.hid (K5.out.later (Kit.below_alloc W15 (.cells #[.int .i64 V.k, .int .i64 1152921504606846976, .string V.s, .slice va V.l.length vc] 30)))
      have F6 := Lib.hid (F5.out.later (Kit.below_alloc W15 (.cells #[.int .i64 V.k, .int .i64 1152921504606846976, .string V.s, .slice va V.l.length vc] 30)))
      have G6 := Lib.hid (G5.out.later (Kit.below_alloc W15 (.cells #[.int .i64 V.k, .int .i64 1152921504606846976, .string V.s, .slice va V.l.length vc] 30)))
      have X6 := Lib.hid (Bx.new W15 (.mk V.k 1152921504606846976 V.s V.l) (.slice va V.l.length vc) K5.out.v.2)
      go_upto_region 19 with fail
      clear K5 F5 G5 q1 q2 q3 q4
      change Code.wp _ _ _ _ (W15.alloc (.cells #[.int .i64 V.k, .int .i64 1152921504606846976, .string V.s, .slice va V.l.length vc] 30))
      have X7 : Hid (Bx (W15.alloc (.cells #[.int .i64 V.k, .int .i64 1152921504606846976, .string V.s, .slice va V.l.length vc] 30)) W15.heap.size (.mk V.k 1152921504606846976 V.s V.l) (.slice va V.l.length vc)) := X6
      clear X6
      generalize W15.alloc (.cells #[.int .i64 V.k, .int .i64 1152921504606846976, .string V.s, .slice va V.l.length vc] 30) = W16 at *
      generalize W15.heap.size = b19 at *
      obtain ⟨q1, q2, q3, q4⟩ := K6.out.v.1
      go_wp2_with fail
      refine (HR.out V HD.out.2.2.2.2.1 _ K6.out.below _ K6.out.v.rep).mono ?_
      rintro e W17 ⟨⟨nv, rfl, hnv⟩, hB⟩
      obtain ⟨na, ncp, rfl, -⟩ := id hnv
      have K7 := Lib.hid (K6.out.later hB)
      have F7 := Lib.hid (F6.out.later hB)
      have G7 := Lib.hid (G6.out.later hB)
      have X8 := Lib.hid (X7.out.later hB)
      have NV := Lib.hid hnv
      clear hB hnv q1 q2 q3 q4 K6 F6 G6 X7
      go_wp2_with fail
      refine (nums_same _ _ _ _ NV.out K7.out.one).mono ?_
      rintro e W18 ⟨rfl, hB⟩
      have K8 := Lib.hid (K7.out.later hB)
      have F8 := Lib.hid (F7.out.later hB)
      have G8 := Lib.hid (G7.out.later hB)
      have X9 := Lib.hid (X8.out.later hB)
      clear hB NV K7 F7 G7 X8
      obtain ⟨q1, q2, q3, q4⟩ := K8.out.v.1
      go_wp2_with fail
      refine (HWk.out V HD.out.2.2.2.2.1 _ K8.out.below _ K8.out.v.rep).mono ?_
      rintro e W19 ⟨⟨nv, rfl, hnv⟩, hB⟩
      obtain ⟨na, ncp, rfl, -⟩ := id hnv
      have K9 := Lib.hid (K8.out.later hB)
      have F9 := Lib.hid (F8.out.later hB)
      have G9 := Lib.hid (G8.out.later hB)
      have X10 := Lib.hid (X9.out.later hB)
      have NV := Lib.hid hnv
      clear hB hnv q1 q2 q3 q4 K8 F8 G8 X9
      go_wp2_with fail
      refine (nums_same _ _ _ _ NV.out K9.out.two).mono ?_
      rintro e W20 ⟨rfl, hB⟩
      have K10 := Lib.hid (K9.out.later hB)
      have F10 := Lib.hid (F9.out.later hB)
      have G10 := Lib.hid (G9.out.later hB)
      have X11 := Lib.hid (X10.out.later hB)
      clear hB NV K9 F9 G9 X10
      obtain ⟨q1, q2, q3, q4⟩ := F10.out.1
      go_wp2_with fail
      refine (HR.out V HD.out.2.2.2.2.1 _ K10.out.below _ F10.out.rep).mono ?_
      rintro e W21 ⟨⟨nv, rfl, hnv⟩, hB⟩
      obtain ⟨na, ncp, rfl, -⟩ := id hnv
      have K11 := Lib.hid (K10.out.later hB)
      have G11 := Lib.hid (G10.out.later hB)
      have X12 := Lib.hid (X11.out.later hB)
      have NV := Lib.hid hnv
      clear hB hnv q1 q2 q3 q4 K10 F10 G10 X11
      go_wp2_with fail
      refine (nums_same _ _ _ _ NV.out K11.out.one).mono ?_
      rintro e W22 ⟨rfl, hB⟩
      have K12 := Lib.hid (K11.out.later hB)
      have G12 := Lib.hid (G11.out.later hB)
      have X13 := Lib.hid (X12.out.later hB)
      clear hB NV K11 G11 X12
      obtain ⟨q1, q2, q3, q4⟩ := G12.out.1
      go_wp2_with fail
      refine (HWk.out V HD.out.2.2.2.2.1 _ K12.out.below _ G12.out.rep).mono ?_
      rintro e W23 ⟨⟨nv, rfl, hnv⟩, hB⟩
      obtain ⟨na, ncp, rfl, -⟩ := id hnv
      have K13 := Lib.hid (K12.out.later hB)
      have X14 := Lib.hid (X13.out.later hB)
      have NV := Lib.hid hnv
      clear hB hnv q1 q2 q3 q4 K12 G12 X13
      go_wp2_with fail
      refine (nums_same _ _ _ _ NV.out K13.out.two).mono ?_
      rintro e W24 ⟨rfl, hB⟩
      have K14 := Lib.hid (K13.out.later hB)
      have X15 := Lib.hid (X14.out.later hB)
      clear hB NV K13 X14
      obtain ⟨q1, q2, q3, q4⟩ := X15.out.1
      go_wp2_with fail
      refine (HR.out (.mk V.k 1152921504606846976 V.s V.l) HFX.out _ K14.out.below _ X15.out.rep).mono ?_
      rintro e W25 ⟨⟨nv, rfl, hnv⟩, hB⟩
      rw [HN.out.1] at hnv
      obtain ⟨na, ncp, rfl, -⟩ := id hnv
      have K15 := Lib.hid (K14.out.later hB)
      have X16 := Lib.hid (X15.out.later hB)
      clear hB hnv q1 q2 q3 q4 K14 X15
      obtain ⟨q1, q2, q3, q4⟩ := X16.out.1
      go_wp2_with fail
      refine (HWk.out (.mk V.k 1152921504606846976 V.s V.l) HFX.out _ K15.out.below _ X16.out.rep).mono ?_
      rintro e W26 ⟨⟨nv, rfl, hnv⟩, hB⟩
      rw [HN.out.2] at hnv
      obtain ⟨na, ncp, rfl, -⟩ := id hnv
      have K16 := Lib.hid (K15.out.later hB)
      clear hB hnv q1 q2 q3 q4 K15 X16
      go_wp2
      go_ret
      exact ⟨ret_bool (by simp), K16.out.below⟩
theorem refs_row {w : World} (x : Raw) (hx : x.Ok) (xlv : Value) (hl : RawL w x.l xlv) (ae : Addr) (hE : EnvT ae w) :
    Calls Tryz.prog 5 #[.agg #[.int .i64 x.k, .int .i64 x.n, .string x.s, xlv]] w fun e w' => e = .returned (.bool true) ∧ Below w.heap.size w w' := refs_law ae x hx w xlv hl hE
end Go.Proofs.YtmobnlofbopbeaaGreatDoor.Val
