/- The document's own Sign, at every text. -/
import Derived.Test.YtbmhlpojgiminaaGreatDoorValSign
import Derived.Deep.LoopGhost
import Derived.Lib.ValidAsc
import Derived.Test.YtbmhlpojgiminaaGreatDoorValRight
import Derived.Test.YtbmhlpojgiminaaGreatDoorValBs
import Derived.Lib.ValidLaws
import Derived.Lib.TrimU
namespace Go.Proofs.YtbmhlpojgiminaaGreatDoor.Val
open Go.RowKit
open Kit (ret_int ret_bool)

set_option maxRecDepth 100000 in
set_option maxHeartbeats 2000000 in
/-- The document's own Sign. -/
theorem sign_any (s : ByteArray) (hs : s.size ≤ 140737488351232) (w : World) : SignOf s w := by
  by_cases h0 : 0 < s.size
  · have hlt := byteN_lt s 0
    by_cases c1 : byteN s 0 < 128
    · have hS : signB s = 1 := by
        unfold signB
        rw [if_neg (by omega), decode_bytes]
        unfold Lib.decodeN
        rw [if_pos c1, if_neg (by dsimp only; omega)]
      unfold SignOf
      rw [hS]
      have z0 : ((s.size : Int) == 0) = false := beq_eq_false_iff_ne.2 (by omega)
      have hz : (0 : Int) < (s.size : Int) := by omega
      have hb := byteN_at s 0 h0
      have c1z : (byteN s 0 : Int) < 128 := by omega
      clear hS
      go_enter Tryz.func72, Tryz.ntmps72
      go_wp2
      go_ret
      exact ⟨rfl, rfl⟩
    · by_cases c2 : byteN s 0 < 194 ∨ 244 < byteN s 0
      · have hft : Lib.firstT (byteN s 0) = 241 := by
          unfold Lib.firstT
          repeat' split
          all_goals omega
        have hS : signB s = 0 := by
          unfold signB
          rw [if_neg (by omega), decode_bytes, Lib.bad_eq _ _ _ _ _ hlt hft]
          simp
        unfold SignOf
        rw [hS]
        have z0 : ((s.size : Int) == 0) = false := beq_eq_false_iff_ne.2 (by omega)
        have hz : (0 : Int) < (s.size : Int) := by omega
        have hb := byteN_at s 0 h0
        clear hS
        rcases c2 with c2 | c2
        all_goals
          go_enter Tryz.func72, Tryz.ntmps72
          go_wp2
          go_ret
          exact ⟨rfl, rfl⟩
      · have : (194 ≤ byteN s 0 ∧ byteN s 0 ≤ 223) ∨ (224 ≤ byteN s 0 ∧ byteN s 0 ≤ 224) ∨ (225 ≤ byteN s 0 ∧ byteN s 0 ≤ 236) ∨ (237 ≤ byteN s 0 ∧ byteN s 0 ≤ 237) ∨ (238 ≤ byteN s 0 ∧ byteN s 0 ≤ 239) ∨ (240 ≤ byteN s 0 ∧ byteN s 0 ≤ 240) ∨ (241 ≤ byteN s 0 ∧ byteN s 0 ≤ 243) ∨ (244 ≤ byteN s 0 ∧ byteN s 0 ≤ 244) := by omega
        rcases this with h | h | h | h | h | h | h | h
        · exact sign_C2 s w hs h0 h.1 h.2
        · exact sign_E0 s w hs h0 h.1 h.2
        · exact sign_E1a s w hs h0 h.1 h.2
        · exact sign_ED s w hs h0 h.1 h.2
        · exact sign_E1b s w hs h0 h.1 h.2
        · exact sign_F0 s w hs h0 h.1 h.2
        · exact sign_F1 s w hs h0 h.1 h.2
        · exact sign_F4 s w hs h0 h.1 h.2
  · have hs0 : s.size = 0 := by omega
    have hS : signB s = 0 := by unfold signB; rw [if_pos hs0]
    unfold SignOf
    rw [hS]
    have z0 : ((s.size : Int) == 0) = true := beq_iff_eq.2 (by omega)
    clear hS hs0
    go_enter Tryz.func72, Tryz.ntmps72
    go_wp2
    go_ret
    exact ⟨rfl, rfl⟩
end Go.Proofs.YtbmhlpojgiminaaGreatDoor.Val
/- The document's own IsText; ValText. -/
namespace Go.Proofs.YtbmhlpojgiminaaGreatDoor.Val
open Go.RowKit
open Kit (ret_int ret_bool)

theorem signB_le (s : ByteArray) : signB s ≤ s.size := by
  unfold signB
  split
  · omega
  · split
    · omega
    · rw [decode_bytes]
      unfold Lib.decodeN
      repeat' split
      all_goals (dsimp only; omega)

/-- From a place on, by so many signs: is it a text? -/
def itF (s : ByteArray) : Nat → Nat → Bool
  | 0, _ => true
  | g + 1, i => if i < s.size then (if signB (s.extract i s.size) = 0 ∨ byteN s i < 32 ∨ byteN s i = 127 then false else itF s g (i + signB (s.extract i s.size))) else true
/-- The document's own IsText. -/
def isTextB (s : ByteArray) : Bool := itF s (s.size + 1) 0

set_option maxRecDepth 100000 in
set_option maxHeartbeats 1000000 in
theorem isText_any (s : ByteArray) (hs : s.size ≤ 140737488351232) (w : World) :
    Calls Tryz.prog 40 #[.string s] w fun e w' => e = .returned (.bool (isTextB s)) ∧ w = w' := by
  obtain ⟨ANS, hANS⟩ : ∃ ANS, isTextB s = ANS := ⟨_, rfl⟩
  rw [hANS]
  go_enter Tryz.func40, Tryz.ntmps40
  go_wp2
  go_loopg [3, 4] (s.size + 1) (fun gk i n wx => w = wx ∧ ∃ k : Nat, i = .int .i64 k ∧ k ≤ s.size ∧ s.size < k + gk ∧ itF s gk k = ANS)
  case atStart => exact ⟨rfl, 0, rfl, by omega, by omega, hANS⟩
  case round =>
    obtain ⟨rfl, k, rfl, hk, hg, hA⟩ := hrel
    obtain ⟨g', rfl⟩ : ∃ g', gk = g' + 1 := ⟨gk - 1, by omega⟩
    rw [itF] at hA
    clear hANS
    by_cases hlt : k < s.size
    · rw [if_pos hlt] at hA
      have hsl : ∀ W, (Instr.slice 9 (.string s) (some (.int .i64 (k : Int))) none none).run Tryz.prog W = .ok (.string (s.extract k s.size)) W := fun W => by
        rw [run_slice_string_from_if W 9 s .i64 (k : Int) Tryz.underlying9, if_pos ⟨by omega, by omega⟩, Int.toNat_natCast]
      have hsz := Lib.ext_size s k
      have HS := Lib.hid (sign_any (s.extract k s.size) (by omega) w)
      unfold SignOf at HS
      have hle := signB_le (s.extract k s.size)
      rw [hsz] at hle
      have hbk := byteN_at s k hlt
      have lk := byteN_lt s k
      have i1 : (k : Int) < (s.size : Int) := by omega
      clear hsz
      generalize signB (s.extract k s.size) = N at *
      by_cases c0 : N = 0
      · rw [if_pos (.inl c0)] at hA
        have HA := Lib.hid hA
        subst c0
        clear hA
        go_wp2_with fail
        refine HS.out.mono ?_; rintro e w' ⟨rfl, rfl⟩
        go_wp2
        go_ret
        exact ⟨ret_bool HA.out, rfl⟩
      · have n0 : ((N : Int) == 0) = false := beq_eq_false_iff_ne.2 (by omega)
        by_cases c1 : byteN s k < 32
        · rw [if_pos (.inr (.inl c1))] at hA
          have HA := Lib.hid hA
          clear hA
          go_wp2_with fail
          refine HS.out.mono ?_; rintro e w' ⟨rfl, rfl⟩
          go_wp2
          go_ret
          exact ⟨ret_bool HA.out, rfl⟩
        · by_cases c2 : byteN s k = 127
          · rw [if_pos (.inr (.inr c2))] at hA
            have HA := Lib.hid hA
            have n2 : ((byteN s k : Int) == 127) = true := beq_iff_eq.2 (by omega)
            clear hA c2
            go_wp2_with fail
            refine HS.out.mono ?_; rintro e w' ⟨rfl, rfl⟩
            go_wp2
            go_ret
            exact ⟨ret_bool HA.out, rfl⟩
          · rw [if_neg (by omega)] at hA
            have HA := Lib.hid hA
            have n2 : ((byteN s k : Int) == 127) = false := beq_eq_false_iff_ne.2 (by omega)
            clear hA c2
            go_wp2_with fail
            refine HS.out.mono ?_; rintro e w' ⟨rfl, rfl⟩
            go_wp2
            go_roundg g'
            case rel => exact ⟨rfl, k + N, by go_num, by omega, by omega, HA.out⟩
            case measure => omega
    · rw [if_neg hlt] at hA
      have HA := Lib.hid hA
      have i1 : ¬ (k : Int) < (s.size : Int) := by omega
      clear hA
      go_wp2
      go_ret
      exact ⟨ret_bool HA.out, rfl⟩
end Go.Proofs.YtbmhlpojgiminaaGreatDoor.Val
/- Texts, rune by rune. -/
namespace Go.Proofs.YtbmhlpojgiminaaGreatDoor.Val
open Go.RowKit

/-- A list's byte. -/
def gb (l : List UInt8) (j : Nat) : Nat := (l.getD j 0).toNat
theorem get_bs (l : List UInt8) (j : Nat) : ((bs l).get! j) = l.getD j 0 := by
  show l.toArray[j]! = _
  rw [List.getElem!_toArray]
  simp [List.getD]
  rfl
theorem byteN_bs (l : List UInt8) (j : Nat) : byteN (bs l) j = gb l j := by unfold byteN gb; rw [get_bs]
theorem byteN_list (s : ByteArray) (j : Nat) : byteN s j = gb s.data.toList j := by rw [← byteN_bs, bs_data]
theorem decodeL_N (l : List UInt8) : Lib.decodeL l = Lib.decodeN l.length (gb l 0) (gb l 1) (gb l 2) (gb l 3) := by
  unfold Lib.decodeL
  change Utf8.decode (bs l) 0 = _
  rw [decode_bytes, bs_size, byteN_bs, byteN_bs, byteN_bs, byteN_bs]
theorem gb_lt (l : List UInt8) (j : Nat) : gb l j < 256 := (l.getD j 0).toNat_lt

/-- What a right sign is, hangs on its own bytes alone. -/
theorem decodeN_same {n n' a b c d a' b' c' d' r k : Nat} (h : Lib.decodeN n a b c d = (r, k)) (hok : ¬ (r = 65533 ∧ k = 1)) (hk : k ≤ n') (e0 : 0 < k → a' = a) (e1 : 1 < k → b' = b) (e2 : 2 < k → c' = c) (e3 : 3 < k → d' = d) : Lib.decodeN n' a' b' c' d' = (r, k) := by
  have hw : 1 ≤ k := by have := Lib.decodeN_ge1 n a b c d; rw [h] at this; exact this
  obtain rfl := e0 (by omega)
  unfold Lib.decodeN at h
  split at h
  · rename_i h1
    unfold Lib.decodeN
    rw [if_pos h1]; exact h
  · rename_i h1
    split at h
    · rename_i h2
      split at h
      · rename_i h3
        cases h
        obtain rfl := e1 (by omega)
        unfold Lib.decodeN
        rw [if_neg h1, if_pos ⟨h2.1, by omega, h2.2.2⟩, if_pos h3]
      · cases h; exact absurd ⟨rfl, rfl⟩ hok
    · rename_i h2
      split at h
      · rename_i h3
        split at h
        · rename_i h4
          cases h
          obtain rfl := e1 (by omega)
          obtain rfl := e2 (by omega)
          unfold Lib.decodeN
          rw [if_neg h1, if_neg (by omega), if_pos ⟨h3.1, ⟨by omega, h3.2.1.2⟩, by omega, h3.2.2.2⟩, if_pos h4]
        · cases h; exact absurd ⟨rfl, rfl⟩ hok
      · rename_i h3
        split at h
        · rename_i h4
          split at h
          · rename_i h5
            cases h
            obtain rfl := e1 (by omega)
            obtain rfl := e2 (by omega)
            obtain rfl := e3 (by omega)
            unfold Lib.decodeN
            rw [if_neg h1, if_neg (by omega), if_neg (by omega), if_pos ⟨h4.1, ⟨by omega, h4.2.1.2⟩, ⟨by omega, h4.2.2.1.2⟩, by omega, h4.2.2.2.2⟩, if_pos h5]
          · cases h; exact absurd ⟨rfl, rfl⟩ hok
        · cases h; exact absurd ⟨rfl, rfl⟩ hok

/-- p is one right sign, c. -/
structure RuneOf (p : List UInt8) (c : Nat) : Prop where
  dec : Lib.decodeL p = (c, p.length)
  ok : ¬ (c = 65533 ∧ p.length = 1)
  ct : ctl c = false
theorem RuneOf.pos {p : List UInt8} {c : Nat} (h : RuneOf p c) : 0 < p.length := by have := Lib.decodeL_width p; rw [h.dec] at this; exact this
theorem RuneOf.le {p : List UInt8} {c : Nat} (h : RuneOf p c) : p.length ≤ 4 := by
  have h1 := h.dec
  rw [decodeL_N] at h1
  have : (Lib.decodeN p.length (gb p 0) (gb p 1) (gb p 2) (gb p 3)).2 ≤ 4 := by
    unfold Lib.decodeN
    repeat' split
    all_goals (dsimp only; omega)
  rw [h1] at this
  exact this
theorem gb_left (p r : List UInt8) {j : Nat} (h : j < p.length) : gb (p ++ r) j = gb p j := by
  unfold gb
  rw [List.getD_eq_getElem?_getD, List.getD_eq_getElem?_getD, List.getElem?_append_left h]
theorem RuneOf.ahead {p : List UInt8} {c : Nat} (h : RuneOf p c) (r : List UInt8) : Lib.decodeL (p ++ r) = (c, p.length) := by
  have h1 := h.dec
  rw [decodeL_N] at h1 ⊢
  exact decodeN_same h1 h.ok (by rw [List.length_append]; omega) (fun k => gb_left p r k) (fun k => gb_left p r k) (fun k => gb_left p r k) (fun k => gb_left p r k)

/-- l is the text of the signs cs. -/
inductive OkT : List UInt8 → List Nat → Prop
  | nil : OkT [] []
  | cons {p r : List UInt8} {c : Nat} {cs : List Nat} : RuneOf p c → OkT r cs → OkT (p ++ r) (c :: cs)
theorem OkT.append {l m : List UInt8} {cs ds : List Nat} (h : OkT l cs) (k : OkT m ds) : OkT (l ++ m) (cs ++ ds) := by
  induction h with
  | nil => exact k
  | cons hr _ ih => rw [List.append_assoc]; exact .cons hr ih

theorem OkT.valid {l : List UInt8} {cs : List Nat} (h : OkT l cs) : Lib.validD l = true := by
  induction h with
  | nil => rfl
  | @cons p r c cs hr _ ih =>
    unfold Lib.validD at ih ⊢
    have hp := hr.pos
    obtain ⟨n, hn⟩ : ∃ n, (p ++ r).length = n + 1 := ⟨(p ++ r).length - 1, by rw [List.length_append]; omega⟩
    rw [hn, Lib.validGoD, if_neg (by intro h; rw [h] at hn; cases hn), hr.ahead r, if_neg hr.ok, List.drop_left]
    rw [← ih]
    exact Lib.validGoD_fuel _ _ _ (by rw [List.length_append] at hn; omega) (Nat.le_refl _)

theorem idx_okT (s : ByteArray) : ∀ (l : List UInt8) (cs : List Nat), OkT l cs → ∀ (f pos : Nat), s.data.toList.drop pos = l → l.length ≤ f → Lib.idxFuncFrom ctl true s f pos = -1 := by
  intro l cs h
  induction h with
  | nil =>
    intro f pos hd _
    refine Lib.idxFuncFrom_end _ _ _ _ _ ?_
    have : (s.data.toList.drop pos).length = 0 := by rw [hd]; rfl
    rw [List.length_drop, data_len] at this
    omega
  | @cons p r c cs hr _ ih =>
    intro f pos hd hf
    have hp := hr.pos
    rw [List.length_append] at hf
    obtain ⟨g, rfl⟩ : ∃ g, f = g + 1 := ⟨f - 1, by omega⟩
    have hlen : (s.data.toList.drop pos).length = p.length + r.length := by rw [hd, List.length_append]
    rw [List.length_drop, data_len] at hlen
    have hdec : Utf8.decode s pos = (c, p.length) := by rw [← Lib.decodeL_drop, hd]; exact hr.ahead r
    rw [Lib.idxFuncFrom, if_pos (by omega), hdec, if_neg (by rw [hr.ct]; simp)]
    refine ih g (pos + p.length) ?_ (by omega)
    rw [← List.drop_drop, hd, List.drop_left]
theorem OkT.noCtl {l : List UInt8} {cs : List Nat} (h : OkT l cs) : hasCtl (bs l) = false := by
  unfold hasCtl Lib.idxFunc
  rw [idx_okT (bs l) l cs h (bs l).size 0 (by rw [bs_list]; rfl) (by rw [bs_size]; exact Nat.le_refl _)]
  rfl
theorem OkT.right {l : List UInt8} {cs : List Nat} (h : OkT l cs) (hl : l.length ≤ 60) : rightT (bs l) = true := by
  unfold rightT
  rw [bs_size, bs_list, h.valid, h.noCtl, decide_eq_true hl]; rfl

theorem signB_list (s : ByteArray) : signB s = if s.data.toList = [] then 0 else if (Lib.decodeL s.data.toList).1 = 65533 ∧ (Lib.decodeL s.data.toList).2 = 1 then 0 else (Lib.decodeL s.data.toList).2 := by
  unfold signB Lib.decodeL
  rw [show (⟨s.data.toList.toArray⟩ : ByteArray) = s from bs_data s]
  by_cases h : s.size = 0
  · rw [if_pos h, if_pos (List.eq_nil_of_length_eq_zero (by rw [data_len]; exact h))]
  · rw [if_neg h, if_neg (show ¬ s.data.toList = [] from fun e => h (by rw [← data_len, e]; rfl))]

/-- The first sign of a list, if it is right. -/
theorem rune_take {l : List UInt8} {c k : Nat} (h : Lib.decodeL l = (c, k)) (hok : ¬ (c = 65533 ∧ k = 1)) (hl : l ≠ []) (hc : ctl c = false) : RuneOf (l.take k) c ∧ k ≤ l.length := by
  have hk : k ≤ l.length := by
    have := signB_le (bs l)
    rw [signB_list, bs_list, if_neg hl, h, if_neg hok, bs_size] at this
    exact this
  have hlen : (l.take k).length = k := by rw [List.length_take]; omega
  refine ⟨⟨?_, by rw [hlen]; exact hok, hc⟩, hk⟩
  rw [decodeL_N] at h
  rw [decodeL_N, hlen]
  have hg : ∀ j, j < k → gb (l.take k) j = gb l j := fun j hj => by
    conv => rhs; rw [← List.take_append_drop k l]
    exact (gb_left _ _ (by rw [hlen]; exact hj)).symm
  exact decodeN_same h hok (Nat.le_refl _) (hg 0) (hg 1) (hg 2) (hg 3)

/-- Which signs texts have, by their first byte. -/
theorem ctl_first {l : List UInt8} {c k : Nat} (h : Lib.decodeL l = (c, k)) (hok : ¬ (c = 65533 ∧ k = 1)) : ctl c = true ↔ gb l 0 < 32 ∨ gb l 0 = 127 := by
  rw [decodeL_N] at h
  unfold ctl
  rw [Bool.or_eq_true, decide_eq_true_eq, beq_iff_eq]
  unfold Lib.decodeN at h
  repeat' split at h
  all_goals (cases h; first | exact absurd ⟨rfl, rfl⟩ hok | omega)

theorem itF_ok (s : ByteArray) : ∀ (g i : Nat), i ≤ s.size → s.size < i + g → (itF s g i = true ↔ ∃ cs, OkT (s.data.toList.drop i) cs)
  | 0, i, h, h2 => by omega
  | g + 1, i, h, h2 => by
    rw [itF]
    by_cases hlt : i < s.size
    · rw [if_pos hlt]
      have hl : s.data.toList.drop i ≠ [] := by
        intro e
        have : (s.data.toList.drop i).length = 0 := by rw [e]; rfl
        rw [List.length_drop, data_len] at this
        omega
      have hext : (s.extract i s.size).data.toList = s.data.toList.drop i := Lib.ext_list s i
      have hgb : byteN s i = gb (s.data.toList.drop i) 0 := by
        rw [byteN_list]
        unfold gb
        rw [List.getD_eq_getElem?_getD, List.getD_eq_getElem?_getD, List.getElem?_drop, Nat.add_zero]
      rw [signB_list, hext, if_neg hl, hgb]
      obtain ⟨c, k, hd⟩ : ∃ c k, Lib.decodeL (s.data.toList.drop i) = (c, k) := ⟨_, _, rfl⟩
      rw [hd]
      dsimp only
      have hw : 1 ≤ k := by have := Lib.decodeL_width (s.data.toList.drop i); rw [hd] at this; exact this
      have hrev : (∃ cs, OkT (s.data.toList.drop i) cs) → ¬ (c = 65533 ∧ k = 1) ∧ ctl c = false ∧ ∃ cs, OkT ((s.data.toList.drop i).drop k) cs := fun ⟨cs, hk⟩ => by
        generalize hlg : s.data.toList.drop i = l at *
        cases hk with
        | nil => exact absurd rfl hl
        | @cons p r c' cs hr hk =>
          have := hr.ahead r
          rw [hd] at this
          cases this
          exact ⟨hr.ok, hr.ct, _, by rw [List.drop_left]; exact hk⟩
      by_cases he : c = 65533 ∧ k = 1
      · rw [if_pos he, if_pos (.inl rfl)]
        exact ⟨fun h => (by cases h), fun h => absurd he (hrev h).1⟩
      · rw [if_neg he]
        have hct := ctl_first hd he
        by_cases hc : ctl c = true
        · rw [if_pos (.inr (hct.1 hc))]
          exact ⟨fun h => (by cases h), fun h => by rw [(hrev h).2.1] at hc; cases hc⟩
        · have hc' : ctl c = false := by simpa using hc
          rw [if_neg (by intro h; rcases h with h | h; omega; exact hc (hct.2 h))]
          obtain ⟨hr, hk⟩ := rune_take hd he hl hc'
          rw [List.length_drop, data_len] at hk
          rw [itF_ok s g (i + k) (by omega) (by omega), ← List.drop_drop]
          constructor
          · rintro ⟨cs, hcs⟩
            exact ⟨c :: cs, by have := OkT.cons hr hcs; rw [List.take_append_drop] at this; exact this⟩
          · intro h; exact (hrev h).2.2
    · rw [if_neg hlt]
      have : s.data.toList.drop i = [] := List.drop_eq_nil_of_le (by rw [data_len]; omega)
      rw [this]
      exact ⟨fun _ => ⟨[], .nil⟩, fun _ => rfl⟩
theorem isTextB_ok (s : ByteArray) : isTextB s = true ↔ ∃ cs, OkT s.data.toList cs := by
  unfold isTextB
  rw [itF_ok s (s.size + 1) 0 (by omega) (by omega)]; rfl
end Go.Proofs.YtbmhlpojgiminaaGreatDoor.Val
