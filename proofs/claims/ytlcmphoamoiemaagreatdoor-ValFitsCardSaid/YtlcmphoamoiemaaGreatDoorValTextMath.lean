/- Texts, rune by rune. -/
import Derived.Test.YtlcmphoamoiemaaGreatDoorValText
import Derived.Test.YtlcmphoamoiemaaGreatDoorValRight
import Derived.Test.YtlcmphoamoiemaaGreatDoorValEnc
import Derived.Lib.ValidLaws
import Derived.Lib.TrimU
namespace Go.Proofs.YtlcmphoamoiemaaGreatDoor.Val
open Go.RowKit

/-- A list's byte. -/
def gb (l : List UInt8) (j : Nat) : Nat := (l.getD j 0).toNat
theorem get_bs (l : List UInt8) (j : Nat) : ((bs l).get! j) = l.getD j 0 := by
  show l.toArray[j]! = _
  rw [List.getElem!_toArray]
  simp [List.getD]
  rfl
theorem byteN_bs (l : List UInt8) (j : Nat) : byteN (bs l) j = gb l j := by unfold byteN gb; rw [get_bs]
theorem byteN_list (s : ByteArray) (j : Nat) : byteN s j = gb s.data.toList j := by rw [← byteN_bs, bs_data]
theorem decodeL_N (l : List UInt8) : Lib.decodeL l = Lib.decodeN l.length (gb l 0) (gb l 1) (gb l 2) (gb l 3) := by
  unfold Lib.decodeL
  change Utf8.decode (bs l) 0 = _
  rw [decode_bytes, bs_size, byteN_bs, byteN_bs, byteN_bs, byteN_bs]
theorem gb_lt (l : List UInt8) (j : Nat) : gb l j < 256 := (l.getD j 0).toNat_lt

/-- What a right sign is, hangs on its own bytes alone. -/
theorem decodeN_same {n n' a b c d a' b' c' d' r k : Nat} (h : Lib.decodeN n a b c d = (r, k)) (hok : ¬ (r = 65533 ∧ k = 1)) (hk : k ≤ n') (e0 : 0 < k → a' = a) (e1 : 1 < k → b' = b) (e2 : 2 < k → c' = c) (e3 : 3 < k → d' = d) : Lib.decodeN n' a' b' c' d' = (r, k) := by
  have hw : 1 ≤ k := by have := Lib.decodeN_ge1 n a b c d; rw [h] at this; exact this
  obtain rfl := e0 (by omega)
  unfold Lib.decodeN at h
  split at h
  · rename_i h1
    unfold Lib.decodeN
    rw [if_pos h1]; exact h
  · rename_i h1
    split at h
    · rename_i h2
      split at h
      · rename_i h3
        cases h
        obtain rfl := e1 (by omega)
        unfold Lib.decodeN
        rw [if_neg h1, if_pos ⟨h2.1, by omega, h2.2.2⟩, if_pos h3]
      · cases h; exact absurd ⟨rfl, rfl⟩ hok
    · rename_i h2
      split at h
      · rename_i h3
        split at h
        · rename_i h4
          cases h
          obtain rfl := e1 (by omega)
          obtain rfl := e2 (by omega)
          unfold Lib.decodeN
          rw [if_neg h1, if_neg (by omega), if_pos ⟨h3.1, ⟨by omega, h3.2.1.2⟩, by omega, h3.2.2.2⟩, if_pos h4]
        · cases h; exact absurd ⟨rfl, rfl⟩ hok
      · rename_i h3
        split at h
        · rename_i h4
          split at h
          · rename_i h5
            cases h
            obtain rfl := e1 (by omega)
            obtain rfl := e2 (by omega)
            obtain rfl := e3 (by omega)
            unfold Lib.decodeN
            rw [if_neg h1, if_neg (by omega), if_neg (by omega), if_pos ⟨h4.1, ⟨by omega, h4.2.1.2⟩, ⟨by omega, h4.2.2.1.2⟩, by omega, h4.2.2.2.2⟩, if_pos h5]
          · cases h; exact absurd ⟨rfl, rfl⟩ hok
        · cases h; exact absurd ⟨rfl, rfl⟩ hok

/-- p is one right sign, c. -/
structure RuneOf (p : List UInt8) (c : Nat) : Prop where
  dec : Lib.decodeL p = (c, p.length)
  ok : ¬ (c = 65533 ∧ p.length = 1)
  ct : ctl c = false
theorem RuneOf.pos {p : List UInt8} {c : Nat} (h : RuneOf p c) : 0 < p.length := by have := Lib.decodeL_width p; rw [h.dec] at this; exact this
theorem RuneOf.le {p : List UInt8} {c : Nat} (h : RuneOf p c) : p.length ≤ 4 := by
  have h1 := h.dec
  rw [decodeL_N] at h1
  have : (Lib.decodeN p.length (gb p 0) (gb p 1) (gb p 2) (gb p 3)).2 ≤ 4 := by
    unfold Lib.decodeN
    repeat' split
    all_goals (dsimp only; omega)
  rw [h1] at this
  exact this
theorem gb_left (p r : List UInt8) {j : Nat} (h : j < p.length) : gb (p ++ r) j = gb p j := by
  unfold gb
  rw [List.getD_eq_getElem?_getD, List.getD_eq_getElem?_getD, List.getElem?_append_left h]
theorem RuneOf.ahead {p : List UInt8} {c : Nat} (h : RuneOf p c) (r : List UInt8) : Lib.decodeL (p ++ r) = (c, p.length) := by
  have h1 := h.dec
  rw [decodeL_N] at h1 ⊢
  exact decodeN_same h1 h.ok (by rw [List.length_append]; omega) (fun k => gb_left p r k) (fun k => gb_left p r k) (fun k => gb_left p r k) (fun k => gb_left p r k)

/-- l is the text of the signs cs. -/
inductive OkT : List UInt8 → List Nat → Prop
  | nil : OkT [] []
  | cons {p r : List UInt8} {c : Nat} {cs : List Nat} : RuneOf p c → OkT r cs → OkT (p ++ r) (c :: cs)
theorem OkT.append {l m : List UInt8} {cs ds : List Nat} (h : OkT l cs) (k : OkT m ds) : OkT (l ++ m) (cs ++ ds) := by
  induction h with
  | nil => exact k
  | cons hr _ ih => rw [List.append_assoc]; exact .cons hr ih

theorem OkT.valid {l : List UInt8} {cs : List Nat} (h : OkT l cs) : Lib.validD l = true := by
  induction h with
  | nil => rfl
  | @cons p r c cs hr _ ih =>
    unfold Lib.validD at ih ⊢
    have hp := hr.pos
    obtain ⟨n, hn⟩ : ∃ n, (p ++ r).length = n + 1 := ⟨(p ++ r).length - 1, by rw [List.length_append]; omega⟩
    rw [hn, Lib.validGoD, if_neg (by intro h; rw [h] at hn; cases hn), hr.ahead r, if_neg hr.ok, List.drop_left]
    rw [← ih]
    exact Lib.validGoD_fuel _ _ _ (by rw [List.length_append] at hn; omega) (Nat.le_refl _)

theorem idx_okT (s : ByteArray) : ∀ (l : List UInt8) (cs : List Nat), OkT l cs → ∀ (f pos : Nat), s.data.toList.drop pos = l → l.length ≤ f → Lib.idxFuncFrom ctl true s f pos = -1 := by
  intro l cs h
  induction h with
  | nil =>
    intro f pos hd _
    refine Lib.idxFuncFrom_end _ _ _ _ _ ?_
    have : (s.data.toList.drop pos).length = 0 := by rw [hd]; rfl
    rw [List.length_drop, data_len] at this
    omega
  | @cons p r c cs hr _ ih =>
    intro f pos hd hf
    have hp := hr.pos
    rw [List.length_append] at hf
    obtain ⟨g, rfl⟩ : ∃ g, f = g + 1 := ⟨f - 1, by omega⟩
    have hlen : (s.data.toList.drop pos).length = p.length + r.length := by rw [hd, List.length_append]
    rw [List.length_drop, data_len] at hlen
    have hdec : Utf8.decode s pos = (c, p.length) := by rw [← Lib.decodeL_drop, hd]; exact hr.ahead r
    rw [Lib.idxFuncFrom, if_pos (by omega), hdec, if_neg (by rw [hr.ct]; simp)]
    refine ih g (pos + p.length) ?_ (by omega)
    rw [← List.drop_drop, hd, List.drop_left]
theorem OkT.noCtl {l : List UInt8} {cs : List Nat} (h : OkT l cs) : hasCtl (bs l) = false := by
  unfold hasCtl Lib.idxFunc
  rw [idx_okT (bs l) l cs h (bs l).size 0 (by rw [bs_list]; rfl) (by rw [bs_size]; exact Nat.le_refl _)]
  rfl
theorem OkT.right {l : List UInt8} {cs : List Nat} (h : OkT l cs) (hl : l.length ≤ 60) : rightT (bs l) = true := by
  unfold rightT
  rw [bs_size, bs_list, h.valid, h.noCtl, decide_eq_true hl]; rfl

theorem signB_list (s : ByteArray) : signB s = if s.data.toList = [] then 0 else if (Lib.decodeL s.data.toList).1 = 65533 ∧ (Lib.decodeL s.data.toList).2 = 1 then 0 else (Lib.decodeL s.data.toList).2 := by
  unfold signB Lib.decodeL
  rw [show (⟨s.data.toList.toArray⟩ : ByteArray) = s from bs_data s]
  by_cases h : s.size = 0
  · rw [if_pos h, if_pos (List.eq_nil_of_length_eq_zero (by rw [data_len]; exact h))]
  · rw [if_neg h, if_neg (show ¬ s.data.toList = [] from fun e => h (by rw [← data_len, e]; rfl))]

/-- The first sign of a list, if it is right. -/
theorem rune_take {l : List UInt8} {c k : Nat} (h : Lib.decodeL l = (c, k)) (hok : ¬ (c = 65533 ∧ k = 1)) (hl : l ≠ []) (hc : ctl c = false) : RuneOf (l.take k) c ∧ k ≤ l.length := by
  have hk : k ≤ l.length := by
    have := signB_le (bs l)
    rw [signB_list, bs_list, if_neg hl, h, if_neg hok, bs_size] at this
    exact this
  have hlen : (l.take k).length = k := by rw [List.length_take]; omega
  refine ⟨⟨?_, by rw [hlen]; exact hok, hc⟩, hk⟩
  rw [decodeL_N] at h
  rw [decodeL_N, hlen]
  have hg : ∀ j, j < k → gb (l.take k) j = gb l j := fun j hj => by
    conv => rhs; rw [← List.take_append_drop k l]
    exact (gb_left _ _ (by rw [hlen]; exact hj)).symm
  exact decodeN_same h hok (Nat.le_refl _) (hg 0) (hg 1) (hg 2) (hg 3)

/-- Which signs texts have, by their first byte. -/
theorem ctl_first {l : List UInt8} {c k : Nat} (h : Lib.decodeL l = (c, k)) (hok : ¬ (c = 65533 ∧ k = 1)) : ctl c = true ↔ gb l 0 < 32 ∨ gb l 0 = 127 := by
  rw [decodeL_N] at h
  unfold ctl
  rw [Bool.or_eq_true, decide_eq_true_eq, beq_iff_eq]
  unfold Lib.decodeN at h
  repeat' split at h
  all_goals (cases h; first | exact absurd ⟨rfl, rfl⟩ hok | omega)

theorem itF_ok (s : ByteArray) : ∀ (g i : Nat), i ≤ s.size → s.size < i + g → (itF s g i = true ↔ ∃ cs, OkT (s.data.toList.drop i) cs)
  | 0, i, h, h2 => by omega
  | g + 1, i, h, h2 => by
    rw [itF]
    by_cases hlt : i < s.size
    · rw [if_pos hlt]
      have hl : s.data.toList.drop i ≠ [] := by
        intro e
        have : (s.data.toList.drop i).length = 0 := by rw [e]; rfl
        rw [List.length_drop, data_len] at this
        omega
      have hext : (s.extract i s.size).data.toList = s.data.toList.drop i := Lib.ext_list s i
      have hgb : byteN s i = gb (s.data.toList.drop i) 0 := by
        rw [byteN_list]
        unfold gb
        rw [List.getD_eq_getElem?_getD, List.getD_eq_getElem?_getD, List.getElem?_drop, Nat.add_zero]
      rw [signB_list, hext, if_neg hl, hgb]
      obtain ⟨c, k, hd⟩ : ∃ c k, Lib.decodeL (s.data.toList.drop i) = (c, k) := ⟨_, _, rfl⟩
      rw [hd]
      dsimp only
      have hw : 1 ≤ k := by have := Lib.decodeL_width (s.data.toList.drop i); rw [hd] at this; exact this
      have hrev : (∃ cs, OkT (s.data.toList.drop i) cs) → ¬ (c = 65533 ∧ k = 1) ∧ ctl c = false ∧ ∃ cs, OkT ((s.data.toList.drop i).drop k) cs := fun ⟨cs, hk⟩ => by
        generalize hlg : s.data.toList.drop i = l at *
        cases hk with
        | nil => exact absurd rfl hl
        | @cons p r c' cs hr hk =>
          have := hr.ahead r
          rw [hd] at this
          cases this
          exact ⟨hr.ok, hr.ct, _, by rw [List.drop_left]; exact hk⟩
      by_cases he : c = 65533 ∧ k = 1
      · rw [if_pos he, if_pos (.inl rfl)]
        exact ⟨fun h => (by cases h), fun h => absurd he (hrev h).1⟩
      · rw [if_neg he]
        have hct := ctl_first hd he
        by_cases hc : ctl c = true
        · rw [if_pos (.inr (hct.1 hc))]
          exact ⟨fun h => (by cases h), fun h => by rw [(hrev h).2.1] at hc; cases hc⟩
        · have hc' : ctl c = false := by simpa using hc
          rw [if_neg (by intro h; rcases h with h | h; omega; exact hc (hct.2 h))]
          obtain ⟨hr, hk⟩ := rune_take hd he hl hc'
          rw [List.length_drop, data_len] at hk
          rw [itF_ok s g (i + k) (by omega) (by omega), ← List.drop_drop]
          constructor
          · rintro ⟨cs, hcs⟩
            exact ⟨c :: cs, by have := OkT.cons hr hcs; rw [List.take_append_drop] at this; exact this⟩
          · intro h; exact (hrev h).2.2
    · rw [if_neg hlt]
      have : s.data.toList.drop i = [] := List.drop_eq_nil_of_le (by rw [data_len]; omega)
      rw [this]
      exact ⟨fun _ => ⟨[], .nil⟩, fun _ => rfl⟩
theorem isTextB_ok (s : ByteArray) : isTextB s = true ↔ ∃ cs, OkT s.data.toList cs := by
  unfold isTextB
  rw [itF_ok s (s.size + 1) 0 (by omega) (by omega)]; rfl

/-- Of a raw text, one that may be: from a place on. -/
def vtF (s : ByteArray) : Nat → List UInt8 → Nat → List UInt8
  | 0, out, _ => out
  | g + 1, out, i =>
    if i < s.size ∧ out.length < 17 then
      (if isTextB (s.extract i (i + max (signB (s.extract i s.size)) 1)) then vtF s g (out ++ (s.extract i (i + max (signB (s.extract i s.size)) 1)).data.toList) (i + max (signB (s.extract i s.size)) 1)
       else vtF s g out (i + max (signB (s.extract i s.size)) 1))
    else out
/-- Of a raw text, one that may be. -/
def valText (s : ByteArray) : List UInt8 := vtF s (s.size + 1) [] 0

theorem signB_four (s : ByteArray) : signB s ≤ 4 := by
  unfold signB
  split
  · omega
  · split
    · omega
    · rw [decode_bytes]
      unfold Lib.decodeN
      repeat' split
      all_goals (dsimp only; omega)
theorem piece_step (s : ByteArray) (i : Nat) (h : i < s.size) : i + max (signB (s.extract i s.size)) 1 ≤ s.size := by
  have := signB_le (s.extract i s.size)
  rw [Lib.ext_size] at this
  omega
theorem vtF_ok (s : ByteArray) : ∀ (g : Nat) (out : List UInt8) (i : Nat), (∃ cs, OkT out cs) → out.length ≤ 20 → (∃ cs, OkT (vtF s g out i) cs) ∧ (vtF s g out i).length ≤ 20
  | 0, out, i, h, hl => ⟨h, hl⟩
  | g + 1, out, i, h, hl => by
    rw [vtF]
    split
    · rename_i hc
      split
      · rename_i ht
        obtain ⟨cs, h1⟩ := h
        obtain ⟨ds, h2⟩ := (isTextB_ok _).1 ht
        refine vtF_ok s g _ _ ⟨_, h1.append h2⟩ ?_
        have h4 := signB_four (s.extract i s.size)
        rw [List.length_append, data_len, ByteArray.size_extract]
        omega
      · exact vtF_ok s g out _ h hl
    · exact ⟨h, hl⟩
theorem valText_ok (s : ByteArray) : (∃ cs, OkT (valText s) cs) ∧ (valText s).length ≤ 20 := vtF_ok s _ [] 0 ⟨[], .nil⟩ (by simp)
theorem valText_right (s : ByteArray) : rightT (bs (valText s)) = true := by
  obtain ⟨⟨cs, h⟩, hl⟩ := valText_ok s
  exact h.right (by omega)

set_option maxRecDepth 100000 in
set_option maxHeartbeats 1000000 in
theorem valText_any (s : ByteArray) (hs : s.size ≤ 140737488351232) (w : World) :
    Calls Tryz.prog 78 #[.string s] w fun e w' => e = .returned (.string (bs (valText s))) ∧ w = w' := by
  obtain ⟨ANS, hANS⟩ : ∃ ANS, valText s = ANS := ⟨_, rfl⟩
  rw [hANS]
  go_enter Tryz.func78, Tryz.ntmps78
  go_wp2
  go_loopg [3, 4, 5, 6] (s.size + 1) (fun gk o i n t wx => w = wx ∧ ∃ (out : List UInt8) (k : Nat), o = .string (bs out) ∧ i = .int .i64 k ∧ k ≤ s.size ∧ s.size < k + gk ∧ out.length ≤ 20 ∧ vtF s gk out k = ANS)
  case atStart => exact ⟨rfl, [], 0, rfl, rfl, by omega, by omega, by simp, hANS⟩
  case round =>
    obtain ⟨rfl, out, k, rfl, rfl, hk, hg, hl, hA⟩ := hrel
    obtain ⟨g', rfl⟩ : ∃ g', gk = g' + 1 := ⟨gk - 1, by omega⟩
    rw [vtF] at hA
    clear hANS
    by_cases hlt : k < s.size
    · have i1 : (k : Int) < (s.size : Int) := by omega
      by_cases h17 : out.length < 17
      · rw [if_pos ⟨hlt, h17⟩] at hA
        have i2 : (out.length : Int) < 17 := by omega
        have hsl : ∀ W, (Instr.slice 9 (.string s) (some (.int .i64 (k : Int))) none none).run Tryz.prog W = .ok (.string (s.extract k s.size)) W := fun W => by
          rw [run_slice_string_from_if W 9 s .i64 (k : Int) Tryz.underlying9, if_pos ⟨by omega, by omega⟩, Int.toNat_natCast]
        have hsz := Lib.ext_size s k
        have HS := Lib.hid (sign_any (s.extract k s.size) (by omega) w)
        unfold SignOf at HS
        have hst := piece_step s k hlt
        have h4 := signB_four (s.extract k s.size)
        clear hsz
        generalize signB (s.extract k s.size) = N at *
        have hmax : max (N : Int) 1 = ((max N 1 : Nat) : Int) := by omega
        have hm1 : 1 ≤ max N 1 := by omega
        have hm4 : max N 1 ≤ 4 := by omega
        generalize max N 1 = M at *
        have hsl2 : ∀ W, (Instr.slice 9 (.string s) (some (.int .i64 (k : Int))) (some (.int .i64 ((k : Int) + (M : Int)))) none).run Tryz.prog W = .ok (.string (s.extract k (k + M))) W := fun W => by
          have e := run_slice_string (P := Tryz.prog) (w := W) 9 s .i64 .i64 (k : Int) ((k : Int) + (M : Int)) Tryz.underlying9 (by omega) (by omega) (by omega)
          rw [show ((k : Int) + (M : Int)).toNat = k + M from by omega, Int.toNat_natCast] at e
          exact e
        have hps : (s.extract k (k + M)).size = M := by rw [ByteArray.size_extract]; omega
        have HT := Lib.hid (isText_any (s.extract k (k + M)) (by omega) w)
        cases ht : isTextB (s.extract k (k + M))
        · rw [ht] at hA HT
          simp only [Bool.false_eq_true, if_false] at hA
          have HA := Lib.hid hA
          clear hA ht hps
          go_wp2_with (first | (go_at_call 92; refine HS.out.mono ?_; rintro e w' ⟨rfl, rfl⟩) | (go_at_call 49; refine HT.out.mono ?_; rintro e w' ⟨rfl, rfl⟩))
          go_roundg g'
          case rel => exact ⟨rfl, out, k + M, rfl, by go_num, by omega, by omega, hl, HA.out⟩
          case measure => omega
        · rw [ht] at hA HT
          simp only [if_true] at hA
          have hpl : (s.extract k (k + M)).data.toList.length = M := by rw [data_len, hps]
          have hadd := add_bs (P := Tryz.prog) out (s.extract k (k + M)).data.toList (by omega)
          rw [bs_data] at hadd
          generalize (s.extract k (k + M)).data.toList = P at *
          have HA := Lib.hid hA
          have HP := Lib.hid hpl
          clear hA ht hps hpl
          go_wp2_with (first | (go_at_call 92; refine HS.out.mono ?_; rintro e w' ⟨rfl, rfl⟩) | (go_at_call 49; refine HT.out.mono ?_; rintro e w' ⟨rfl, rfl⟩))
          go_roundg g'
          case rel => exact ⟨rfl, _, k + M, rfl, by go_num, by omega, by omega, by rw [List.length_append, HP.out]; omega, HA.out⟩
          case measure => omega
      · rw [if_neg (by omega)] at hA
        have HA := Lib.hid hA
        have i2 : ¬ (out.length : Int) < 17 := by omega
        clear hA
        go_wp2
        go_ret
        exact ⟨by rw [HA.out]; rfl, rfl⟩
    · rw [if_neg (by omega)] at hA
      have HA := Lib.hid hA
      have i1 : ¬ (k : Int) < (s.size : Int) := by omega
      clear hA
      go_wp2
      go_ret
      exact ⟨by rw [HA.out]; rfl, rfl⟩
end Go.Proofs.YtlcmphoamoiemaaGreatDoor.Val
