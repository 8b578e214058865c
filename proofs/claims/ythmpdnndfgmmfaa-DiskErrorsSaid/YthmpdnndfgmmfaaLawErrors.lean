/- Layer 2's law DiskErrors: the walk. -/
import Derived.Test.YthmpdnndfgmmfaaLawSt
namespace Go.Proofs.Ythmpdnndfgmmfaa.Disk
open Go.RowKit

attribute [local go_sem] Oper.semAt_some

theorem read_nil (a : Int) (w : World) : Calls Try.prog 16 #[.pointer none, .int .i64 a] w fun e w' => e = .returned (.tuple #[.string ⟨#[]⟩, .int .i64 1]) ∧ w = w' := by
  go_enter Try.func16, Try.ntmps16
  go_wp2
  go_ret2
  exact ⟨rfl, rfl⟩
theorem write_nil (a : Int) (s : ByteArray) (w : World) : Calls Try.prog 21 #[.pointer none, .int .i64 a, .string s] w fun e w' => e = .returned (.int .i64 1) ∧ w = w' := by
  go_enter Try.func21, Try.ntmps21
  go_wp2
  go_ret
  exact ⟨rfl, rfl⟩
theorem sync_nil (w : World) : Calls Try.prog 20 #[.pointer none] w fun e w' => e = .returned (.int .i64 1) ∧ w = w' := by
  go_enter Try.func20, Try.ntmps20
  go_wp2
  go_ret
  exact ⟨rfl, rfl⟩
theorem crash_none (w : World) : Calls Try.prog 13 #[.pointer none, .slice none 0 0] w fun e w' => e = .returned (.int .i64 1) ∧ w = w' := by
  go_enter Try.func13, Try.ntmps13
  go_wp2
  go_ret
  exact ⟨rfl, rfl⟩
theorem rot_nil (a q m : Int) (w : World) : Calls Try.prog 22 #[.pointer none, .int .i64 a, .int .i64 q, .int .i64 m] w fun e w' => e = .returned (.int .i64 1) ∧ w = w' := by
  go_enter Try.func22, Try.ntmps22
  go_wp2
  go_ret
  exact ⟨rfl, rfl⟩
theorem cut_nil (n : Int) (w : World) : Calls Try.prog 23 #[.pointer none, .int .i64 n] w fun e w' => e = .returned (.int .i64 1) ∧ w = w' := by
  go_enter Try.func23, Try.ntmps23
  go_wp2
  go_ret
  exact ⟨rfl, rfl⟩
theorem pending_nil (w : World) : Calls Try.prog 15 #[.pointer none] w fun e w' => e = .returned (.int .i64 0) ∧ w = w' := by
  go_enter Try.func15, Try.ntmps15
  go_wp2
  go_ret
  exact ⟨rfl, rfl⟩
theorem size_nil (w : World) : Calls Try.prog 24 #[.pointer none] w fun e w' => e = .returned (.int .i64 0) ∧ w = w' := by
  go_enter Try.func24, Try.ntmps24
  go_wp2
  go_ret
  exact ⟨rfl, rfl⟩

theorem read_far (D : Dk) (a : Int) (h : ¬ (0 ≤ a ∧ a < D.n)) : D.read a = (⟨#[]⟩, 20) := by unfold Dk.read; rw [if_neg h]
theorem crashE_out (D : Dk) (xs : List Int) (k : Int) (hk : k ∈ xs) (h : ¬ (0 ≤ k ∧ k < D.pend.length)) : D.crashE xs = (D, 21) :=
  crashE_bad D xs _ rfl (by unfold okKeep; rw [decide_eq_false_iff_not]; rintro ⟨h1, _⟩; exact h (h1 k hk))
theorem crashE_twice (D : Dk) (k : Int) : D.crashE [k, k] = (D, 21) :=
  crashE_bad D _ _ rfl (by unfold okKeep; rw [decide_eq_false_iff_not]; rintro ⟨_, h2⟩; simp at h2)
theorem rotR_bad (D : Dk) (a p m : Int) (r : Int) (h : D.rotE a p m = r) (hr : r ≠ 0) : D.rotR a p m = (D, r) := by
  unfold Dk.rotR; rw [h, if_neg hr]
theorem cutE_bad (D : Dk) (n : Int) (h : n < 0) : D.cutE n = (D, 2) := by unfold Dk.cutE; rw [if_pos h]

set_option maxRecDepth 100000 in
set_option maxHeartbeats 16000000 in
theorem errors_any (sv : Value) (ss : List CallD) (pv : Value) (ps : List CallD) (x : Int) (x1 : -9223372036854775808 ≤ x) (x2 : x ≤ 9223372036854775807) (s : ByteArray) (hs64 : s.size ≤ 9223372036854775807) (w : World) (hs : CallsAt w sv ss) (hso : ∀ c ∈ ss, c.Ok) (hsl : ss.length ≤ 9223372036854775807)
    (hp : CallsAt w pv ps) (hpo : ∀ c ∈ ps, c.Ok) (hpl : ps.length ≤ 9223372036854775807) :
    Calls Try.prog 8 #[sv, pv, .int .i64 x, .string s] w fun e w' => e = .returned (.bool true) ∧ Below w.heap.size w w' := by
  have HS := Lib.hid (Had.mk hs hso hsl)
  have HP := Lib.hid (Had.mk hp hpo hpl)
  clear hs hso hsl hp hpo hpl
  obtain ⟨D, hD⟩ : ∃ D, D = filledD ss ps := ⟨_, rfl⟩
  obtain ⟨m, hm⟩ : ∃ m, m = D.pend.length := ⟨_, rfl⟩
  obtain ⟨g, hg⟩ : ∃ g, g = pickN x 1000 := ⟨_, rfl⟩
  have hg3 : g < 1000 := by rw [hg]; exact pickN_lt x (by decide)
  have hm8 : m ≤ 8 := by rw [hm, hD]; exact filledD_pend ss ps
  have hDn : D.n = 6 := by rw [hD]; rfl
  have hf : D.pend.length < 1000 := by omega
  have hfl := fullB_len s
  obtain ⟨f, hff⟩ : ∃ f, f = fullB s := ⟨_, rfl⟩
  rw [← hff] at hfl
  have e1 := read_far D (6 + (g : Int)) (by omega)
  have e2 := read_far D (-1 - (g : Int)) (by omega)
  have e3 := write_far D (6 + (g : Int)) (strB f) (by omega)
  have e4 : ∀ t : ByteArray, t.size ≤ 63 → D.write 0 t = (D, 20) := fun t ht => write_far D 0 t (by omega)
  have e5 : ∀ t : ByteArray, D.write 0 (t ++ strB f ++ ⟨#[97]⟩) = (D, 20) := fun t => write_far D 0 _ (by
    rw [ByteArray.size_append, ByteArray.size_append, strB_size, hfl]
    show ¬ (0 ≤ (0 : Int) ∧ (0 : Int) < D.n ∧ t.size + 64 + 1 = 64)
    omega)
  have e6 := crashE_out D [(m : Int) + (g : Int)] _ (List.mem_singleton.2 rfl) (by omega)
  have e7 := crashE_out D [-1 - (g : Int)] _ (List.mem_singleton.2 rfl) (by omega)
  have e8 : D.rotR (6 + (g : Int)) 0 1 = (D, 20) := rotR_bad D _ _ _ 20 (by unfold Dk.rotE; rw [if_neg (by omega)]) (by decide)
  have e9 : D.rotR 0 (64 + (g : Int)) 1 = (D, 2) := rotR_bad D _ _ _ 2 (by unfold Dk.rotE; rw [if_pos (by omega), if_neg (by omega)]) (by decide)
  have e10 : D.rotR 0 0 (256 + (g : Int)) = (D, 2) := rotR_bad D _ _ _ 2 (by unfold Dk.rotE; rw [if_pos (by omega), if_neg (by omega)]) (by decide)
  have e11 := cutE_bad D (-1 - (g : Int)) (by omega)
  have E := Lib.hid (And.intro e1 (And.intro e2 (And.intro e3 (And.intro e4 (And.intro e5 (And.intro e6 (And.intro e7 (And.intro e8 (And.intro e9 (And.intro e10 (And.intro e11 (And.intro hf (And.intro hD (And.intro hm (And.intro hg (And.intro hff (And.intro hfl hDn)))))))))))))))))
  clear e1 e2 e3 e4 e5 e6 e7 e8 e9 e10 e11 hf hD hm hg hff hfl hDn
  have w1 : IntKind.i64.wrap (6 + (g : Int)) = 6 + (g : Int) := by rw [IntKind.wrap_i64]; omega
  have w2 : IntKind.i64.wrap (-1 - (g : Int)) = -1 - (g : Int) := by rw [IntKind.wrap_i64]; omega
  have w3 : IntKind.i64.wrap ((m : Int) + (g : Int)) = (m : Int) + (g : Int) := by rw [IntKind.wrap_i64]; omega
  have w4 : IntKind.i64.wrap (64 + (g : Int)) = 64 + (g : Int) := by rw [IntKind.wrap_i64]; omega
  have w5 : IntKind.i64.wrap (256 + (g : Int)) = 256 + (g : Int) := by rw [IntKind.wrap_i64]; omega
  go_enter Try.func8, Try.ntmps8
  go_wp2_with fail
  refine (St.awake w).mono ?_
  rintro e v1 ⟨rfl, hT⟩
  have T1 := Lib.hid hT; clear hT
  go_wp2_with fail
  refine (T1.out.filled HS.out HP.out).mono ?_
  rintro e v2 ⟨p, rfl, hT⟩
  have T2 := Lib.hid (show St w v2 [(p, D)] from E.out.2.2.2.2.2.2.2.2.2.2.2.2.1 ▸ hT); clear hT T1
  go_wp2_with fail
  refine (T2.out.all 0 rfl).mono ?_
  rintro e v3 ⟨rfl, hT⟩
  have T3 := Lib.hid hT; clear hT T2
  go_wp2_with fail
  refine (T3.out.pending 0 rfl).mono ?_
  rw [← E.out.2.2.2.2.2.2.2.2.2.2.2.2.2.1]
  rintro e _ ⟨rfl, rfl⟩
  go_wp2_with fail
  refine (pick_any x x1 x2 1000 (by decide) (by decide) _).mono ?_
  rw [← E.out.2.2.2.2.2.2.2.2.2.2.2.2.2.2.1]
  rintro e _ ⟨rfl, rfl⟩
  go_upto_region 6 with fail
  go_cut [14] from 42 (fun v wc => ∃ t : ByteArray, v = .string t ∧ t.size ≤ 63 ∧ wc = v3)
  case first =>
    go_wp2
    all_goals go_meet
    all_goals refine ⟨_, rfl, ?_, rfl⟩
    all_goals first | omega | (rw [ByteArray.size_extract]; omega)
  case rest =>
    obtain ⟨t, rfl, ht63, rfl⟩ := hcut
    go_wp2_with fail
    refine (T3.out.read 0 rfl (by omega) E.out.1).mono ?_
    rintro e v10 ⟨rfl, hT⟩
    have T10 := Lib.hid hT; clear hT T3
    go_wp2_with fail
    refine (pick_any x x1 x2 1000 (by decide) (by decide) _).mono ?_
    rw [← E.out.2.2.2.2.2.2.2.2.2.2.2.2.2.2.1]
    rintro e _ ⟨rfl, rfl⟩
    go_wp2_with fail
    refine (T10.out.read 0 rfl (by omega) E.out.2.1).mono ?_
    rintro e v12 ⟨rfl, hT⟩
    have T12 := Lib.hid hT; clear hT T10
    go_wp2_with fail
    refine (T12.out.full s hs64).mono ?_
    rw [← E.out.2.2.2.2.2.2.2.2.2.2.2.2.2.2.2.1]
    rintro e v13 ⟨rfl, hT⟩
    have T13 := Lib.hid hT; clear hT T12
    go_wp2_with fail
    refine (T13.out.write 0 rfl E.out.2.2.2.2.2.2.2.2.2.2.2.1 (by omega) E.out.2.2.1 (L' := [(p, D)]) rfl).mono ?_
    rintro e v14 ⟨rfl, hT⟩
    have T14 := Lib.hid hT; clear hT T13
    go_wp2_with fail
    refine (T14.out.write 0 rfl E.out.2.2.2.2.2.2.2.2.2.2.2.1 (by decide) (E.out.2.2.2.1 t ht63) (L' := [(p, D)]) rfl).mono ?_
    rintro e v15 ⟨rfl, hT⟩
    have T15 := Lib.hid hT; clear hT T14
    have hadd1 : ∀ W, (Op.stringOp .add t (strB f)).run Try.prog W = .ok (.string (t ++ strB f)) W := fun W => run_string_add_sum _ _ _ (by
      have h1 := strB_size f
      have h2 := E.out.2.2.2.2.2.2.2.2.2.2.2.2.2.2.2.2.1
      show t.size + (strB f).size ≤ 9223372036854775807
      omega)
    have hadd2 : ∀ W, (Op.stringOp .add (t ++ strB f) ⟨#[97]⟩).run Try.prog W = .ok (.string (t ++ strB f ++ ⟨#[97]⟩)) W := fun W => run_string_add_sum _ _ _ (by
      have h1 := strB_size f
      have h2 := E.out.2.2.2.2.2.2.2.2.2.2.2.2.2.2.2.2.1
      have h3 : (t ++ strB f).size = t.size + (strB f).size := ByteArray.size_append
      show (t ++ strB f).size + 1 ≤ 9223372036854775807
      omega)
    go_wp2_with fail
    refine (T15.out.full s hs64).mono ?_
    rw [← E.out.2.2.2.2.2.2.2.2.2.2.2.2.2.2.2.1]
    rintro e v16 ⟨rfl, hT⟩
    have T16 := Lib.hid hT; clear hT T15
    go_wp2_with fail
    refine (T16.out.write 0 rfl E.out.2.2.2.2.2.2.2.2.2.2.2.1 (by decide) (E.out.2.2.2.2.1 t) (L' := [(p, D)]) rfl).mono ?_
    rintro e v17 ⟨rfl, hT⟩
    have T17 := Lib.hid hT; clear hT T16
    clear hadd1 hadd2
    go_wp2_with fail
    refine (pick_any x x1 x2 1000 (by decide) (by decide) _).mono ?_
    rw [← E.out.2.2.2.2.2.2.2.2.2.2.2.2.2.2.1]
    rintro e _ ⟨rfl, rfl⟩
    go_wp2_with fail
    refine (T17.out.crashLit 0 rfl [(m : Int) + (g : Int)] (by simp) (by intro y hy; rw [List.mem_singleton.1 hy]; omega) (n := 1) rfl rfl E.out.2.2.2.2.2.1 (L' := [(p, D)]) rfl).mono ?_
    rintro e v19 ⟨rfl, hT⟩
    have T19 := Lib.hid hT; clear hT T17
    go_wp2_with fail
    refine (pick_any x x1 x2 1000 (by decide) (by decide) _).mono ?_
    rw [← E.out.2.2.2.2.2.2.2.2.2.2.2.2.2.2.1]
    rintro e _ ⟨rfl, rfl⟩
    go_wp2_with fail
    refine (T19.out.crashLit 0 rfl [-1 - (g : Int)] (by simp) (by intro y hy; rw [List.mem_singleton.1 hy]; omega) (n := 1) rfl rfl E.out.2.2.2.2.2.2.1 (L' := [(p, D)]) rfl).mono ?_
    rintro e v21 ⟨rfl, hT⟩
    have T21 := Lib.hid hT; clear hT T19
    go_upto_if 90 with fail
    go_cut [24] from 90 (fun v wc => v = .int .i64 21 ∧ St w wc [(p, D)])
    case first =>
      by_cases h0 : m = 0
      · have h0' : ¬ (0 : Int) < (m : Int) := by omega
        clear h0
        go_wp2
        go_meet
        exact ⟨rfl, T21.out⟩
      · have h0' : (0 : Int) < (m : Int) := by omega
        have hq := pickN_lt x (n := m) (by omega)
        obtain ⟨q, hqq⟩ : ∃ q, q = pickN x m := ⟨_, rfl⟩
        rw [← hqq] at hq
        have HQ := Lib.hid hqq
        clear hqq
        go_wp2_with fail
        refine (pick_any x x1 x2 m (by omega) (by omega) _).mono ?_
        rw [← HQ.out]
        rintro e _ ⟨rfl, rfl⟩
        go_wp2_with fail
        refine (pick_any x x1 x2 m (by omega) (by omega) _).mono ?_
        rw [← HQ.out]
        rintro e _ ⟨rfl, rfl⟩
        have hqb : ∀ y ∈ [(q : Int), (q : Int)], -9223372036854775808 ≤ y ∧ y ≤ 9223372036854775807 := by
          intro y hy
          have : y = (q : Int) := by simpa using hy
          omega
        go_wp2_with fail
        refine (T21.out.crashLit 0 rfl [(q : Int), (q : Int)] (by simp) hqb (n := 2) rfl rfl (crashE_twice D q) (L' := [(p, D)]) rfl).mono ?_
        rintro e v24 ⟨rfl, hT⟩
        have T24 := Lib.hid hT; clear hT T21
        go_wp2
        go_meet
        exact ⟨rfl, T24.out⟩
    case rest =>
      obtain ⟨rfl, hT⟩ := hcut
      have TR := Lib.hid hT
      clear hT T21
      go_wp2_with fail
      refine (TR.out.rot 0 rfl (by omega) E.out.2.2.2.2.2.2.2.1 (L' := [(p, D)]) rfl).mono ?_
      rintro e v25 ⟨rfl, hT⟩
      have T25 := Lib.hid hT; clear hT TR
      go_wp2_with fail
      refine (pick_any x x1 x2 1000 (by decide) (by decide) _).mono ?_
      rw [← E.out.2.2.2.2.2.2.2.2.2.2.2.2.2.2.1]
      rintro e _ ⟨rfl, rfl⟩
      go_wp2_with fail
      refine (T25.out.rot 0 rfl (by decide) E.out.2.2.2.2.2.2.2.2.1 (L' := [(p, D)]) rfl).mono ?_
      rintro e v27 ⟨rfl, hT⟩
      have T27 := Lib.hid hT; clear hT T25
      go_wp2_with fail
      refine (pick_any x x1 x2 1000 (by decide) (by decide) _).mono ?_
      rw [← E.out.2.2.2.2.2.2.2.2.2.2.2.2.2.2.1]
      rintro e _ ⟨rfl, rfl⟩
      go_wp2_with fail
      refine (T27.out.rot 0 rfl (by decide) E.out.2.2.2.2.2.2.2.2.2.1 (L' := [(p, D)]) rfl).mono ?_
      rintro e v29 ⟨rfl, hT⟩
      have T29 := Lib.hid hT; clear hT T27
      go_wp2_with fail
      refine (read_nil 0 _).mono ?_
      rintro e _ ⟨rfl, rfl⟩
      have hts : ∀ x, (strB x).toList = x := strB_list
      go_wp2_with fail
      refine (T29.out.all 0 rfl).mono ?_
      rintro e v31 ⟨rfl, hT⟩
      have T31 := Lib.hid hT; clear hT T29
      go_wp2_with fail
      refine (T31.out.pending 0 rfl).mono ?_
      rw [← E.out.2.2.2.2.2.2.2.2.2.2.2.2.2.1]
      rintro e _ ⟨rfl, rfl⟩
      go_wp2_with fail
      refine (T31.out.full ⟨#[]⟩ (by decide)).mono ?_
      rintro e v33 ⟨rfl, hT⟩
      have T33 := Lib.hid hT; clear hT T31
      go_wp2_with fail
      refine (write_nil 0 _ _).mono ?_
      rintro e _ ⟨rfl, rfl⟩
      go_wp2_with fail
      refine (sync_nil _).mono ?_
      rintro e _ ⟨rfl, rfl⟩
      go_wp2_with fail
      refine (crash_none _).mono ?_
      rintro e _ ⟨rfl, rfl⟩
      go_wp2_with fail
      refine (rot_nil 0 0 0 _).mono ?_
      rintro e _ ⟨rfl, rfl⟩
      go_wp2_with fail
      refine (cut_nil 0 _).mono ?_
      rintro e _ ⟨rfl, rfl⟩
      go_wp2_with fail
      refine (pick_any x x1 x2 1000 (by decide) (by decide) _).mono ?_
      rw [← E.out.2.2.2.2.2.2.2.2.2.2.2.2.2.2.1]
      rintro e _ ⟨rfl, rfl⟩
      go_wp2_with fail
      refine (T33.out.cut 0 rfl (by omega) E.out.2.2.2.2.2.2.2.2.2.2.1 (L' := [(p, D)]) rfl).mono ?_
      rintro e v40 ⟨rfl, hT⟩
      have T40 := Lib.hid hT; clear hT T33
      go_wp2_with fail
      refine (pending_nil _).mono ?_
      rintro e _ ⟨rfl, rfl⟩
      go_wp2_with fail
      refine (size_nil _).mono ?_
      rintro e _ ⟨rfl, rfl⟩
      go_wp2
      go_ret
      exact ⟨rfl, T40.out.2⟩
end Go.Proofs.Ythmpdnndfgmmfaa.Disk
