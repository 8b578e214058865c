/- Layer 4: the reader's parts: texts, numbers, types, fields. -/
import Derived.Test.YtmobnlofbopbeaaDoorClassRd
namespace Go.Proofs.YtmobnlofbopbeaaDoor.Cls
open Go.RowKit
open Kit (ret_int ret_bool Moved)
open Val (Env flat bs Vl Rep RepL)

attribute [local go_sem] Oper.semAt_some

/-- A number from 0 to most is read. -/
def upT (s : ByteArray) (m : Int) (st : Int × Int) : Int × Int × Int :=
  if (takeI s st).1 < 0 ∨ m < (takeI s st).1 then (0, (takeI s st).2.1, 10) else takeI s st
def flagT (s : ByteArray) (st : Int × Int) : Bool × Int × Int := ((upT s 1 st).1 == 1, (upT s 1 st).2)
def typeT (s : ByteArray) (st : Int × Int) : (Int × Int) × Int × Int := (((takeI s st).1, (takeI s (takeI s st).2).1), (takeI s (takeI s st).2).2)
def fieldT (s : ByteArray) (st : Int × Int) : Fd × Int × Int :=
  (⟨(takeT s st).1, (typeT s (takeT s st).2).1.1, (typeT s (takeT s st).2).1.2, (flagT s (typeT s (takeT s st).2).2).1⟩, (flagT s (typeT s (takeT s st).2).2).2)

theorem text_any (ae : Addr) (w0 : World) (rb : Nat) (s : ByteArray) (st : Int × Int) (w : World) (h : RC ae w0 rb s st w) :
    Calls Tryd.prog 27 #[.pointer (some ⟨rb, 0, none⟩)] w fun e w' =>
      e = .returned (.string (takeT s st).1) ∧ RC ae w0 rb s (takeT s st).2 w' ∧ Moved (fun j => j = rb) w w' := by
  have HC := Lib.hid (takeT_any ae w0 rb s st w h)
  clear h
  go_enter Tryd.func27, Tryd.ntmps27
  go_wp2_with fail
  refine HC.out.mono ?_; rintro e w' ⟨rfl, h1, h2⟩
  go_wp2
  go_ret
  exact ⟨rfl, h1, h2⟩
theorem number_any (ae : Addr) (w0 : World) (rb : Nat) (s : ByteArray) (st : Int × Int) (w : World) (h : RC ae w0 rb s st w) :
    Calls Tryd.prog 70 #[.pointer (some ⟨rb, 0, none⟩)] w fun e w' =>
      e = .returned (.int .i64 (takeI s st).1) ∧ RC ae w0 rb s (takeI s st).2 w' ∧ Moved (fun j => j = rb) w w' := by
  have HC := Lib.hid (takeI_any ae w0 rb s st w h)
  clear h
  go_enter Tryd.func70, Tryd.ntmps70
  go_wp2_with fail
  refine HC.out.mono ?_; rintro e w' ⟨rfl, h1, h2⟩
  go_wp2
  go_ret
  exact ⟨rfl, h1, h2⟩

set_option maxRecDepth 100000 in
theorem upTo_any (ae : Addr) (w0 : World) (rb : Nat) (s : ByteArray) (m : Int) (st : Int × Int) (w : World) (h : RC ae w0 rb s st w) :
    Calls Tryd.prog 49 #[.pointer (some ⟨rb, 0, none⟩), .int .i64 m] w fun e w' =>
      e = .returned (.int .i64 (upT s m st).1) ∧ RC ae w0 rb s (upT s m st).2 w' ∧ Moved (fun j => j = rb) w w' := by
  have HC := Lib.hid (number_any ae w0 rb s st w h)
  have HU := Lib.hid (show upT s m st = if (takeI s st).1 < 0 ∨ m < (takeI s st).1 then (0, (takeI s st).2.1, 10) else takeI s st from rfl)
  clear h
  generalize upT s m st = U at *
  generalize takeI s st = T at *
  obtain ⟨N, a, er⟩ := T
  go_enter Tryd.func49, Tryd.ntmps49
  go_wp2_with fail
  refine HC.out.mono ?_; rintro e w1 ⟨rfl, h1, h2⟩
  have H1 := Lib.hid (And.intro h1 h2)
  have hs := Lib.hid (h1.set2 10)
  have d2 := h1.c2
  have f2 := h1.fr 2
  clear h1 h2
  by_cases hlo : N < 0
  · have HU2 := Lib.hid (show U = (0, a, 10) by rw [HU.out, if_pos (.inl hlo)])
    go_wp2
    go_ret
    exact ⟨by rw [HU2.out]; rfl, by rw [HU2.out]; exact hs.out.1, H1.out.2.trans hs.out.2 (fun _ _ h => h)⟩
  · by_cases hhi : m < N
    · have HU2 := Lib.hid (show U = (0, a, 10) by rw [HU.out, if_pos (.inr hhi)])
      go_wp2
      go_ret
      exact ⟨by rw [HU2.out]; rfl, by rw [HU2.out]; exact hs.out.1, H1.out.2.trans hs.out.2 (fun _ _ h => h)⟩
    · have HU2 := Lib.hid (show U = (N, a, er) by rw [HU.out, if_neg (by omega)])
      go_wp2
      go_ret
      exact ⟨by rw [HU2.out]; rfl, by rw [HU2.out]; exact H1.out.1, H1.out.2⟩

theorem count_any (ae : Addr) (w0 : World) (rb : Nat) (s : ByteArray) (st : Int × Int) (w : World) (h : RC ae w0 rb s st w) :
    Calls Tryd.prog 29 #[.pointer (some ⟨rb, 0, none⟩)] w fun e w' =>
      e = .returned (.int .i64 (upT s 8 st).1) ∧ RC ae w0 rb s (upT s 8 st).2 w' ∧ Moved (fun j => j = rb) w w' := by
  have HC := Lib.hid (upTo_any ae w0 rb s 8 st w h)
  clear h
  go_enter Tryd.func29, Tryd.ntmps29
  go_wp2_with fail
  refine HC.out.mono ?_; rintro e w' ⟨rfl, h1, h2⟩
  go_wp2
  go_ret
  exact ⟨rfl, h1, h2⟩
theorem flag_any (ae : Addr) (w0 : World) (rb : Nat) (s : ByteArray) (st : Int × Int) (w : World) (h : RC ae w0 rb s st w) :
    Calls Tryd.prog 51 #[.pointer (some ⟨rb, 0, none⟩)] w fun e w' =>
      e = .returned (.bool (flagT s st).1) ∧ RC ae w0 rb s (flagT s st).2 w' ∧ Moved (fun j => j = rb) w w' := by
  have HC := Lib.hid (upTo_any ae w0 rb s 1 st w h)
  unfold flagT
  clear h
  go_enter Tryd.func51, Tryd.ntmps51
  go_wp2_with fail
  refine HC.out.mono ?_; rintro e w' ⟨rfl, h1, h2⟩
  go_wp2
  go_ret
  exact ⟨rfl, h1, h2⟩

/-- A cell of a new block stays. -/
theorem cell_moved {S : Nat → Prop} {w w' : World} (h : Moved S w w') {a : Addr} {v : Value} (hc : w.cell? a = some v) (hS : ¬ S a.block) : w'.cell? a = some v := (World.cell?_of_block (h.block a.block (Kit.lt_of_cell hc) hS)).trans hc
theorem frozen_moved {S : Nat → Prop} {w w' : World} (h : Moved S w w') {a : Addr} (hl : a.block < w.heap.size) (hS : ¬ S a.block) : w'.frozen? a = w.frozen? a := World.frozen?_of_block (h.block a.block hl hS)

set_option maxRecDepth 100000 in
set_option maxHeartbeats 1000000 in
theorem valType_any (ae : Addr) (w0 : World) (rb : Nat) (s : ByteArray) (st : Int × Int) (w : World) (h : RC ae w0 rb s st w) :
    Calls Tryd.prog 50 #[.pointer (some ⟨rb, 0, none⟩)] w fun e w' =>
      e = .returned (.agg #[.int .i64 (typeT s st).1.1, .int .i64 (typeT s st).1.2]) ∧ RC ae w0 rb s (typeT s st).2 w' ∧ Moved (fun j => j = rb) w w' := by
  have hrb : rb < w.heap.size := Kit.lt_of_cell h.c0
  have hge := h.below.size
  have y0 := Kit.cell_new w #[.int .i64 0, .int .i64 0] 44 0 rfl
  have y1 := Kit.cell_new w #[.int .i64 0, .int .i64 0] 44 1 rfl
  have f0 := Kit.frozen_new w #[.int .i64 0, .int .i64 0] 44 0
  have f1 := Kit.frozen_new w #[.int .i64 0, .int .i64 0] 44 1
  have m0 : Moved (fun j => j = rb) w (w.alloc (.cells #[.int .i64 0, .int .i64 0] 44)) := Kit.Moved.alloc _ _ _
  have HC := Lib.hid (number_any ae w0 rb s st _ (h.later (Kit.below_alloc w (.cells #[.int .i64 0, .int .i64 0] 44))))
  have H0 := Lib.hid (And.intro y0 (And.intro y1 (And.intro f0 (And.intro f1 m0))))
  have hne : ¬ w.heap.size = rb := by omega
  have HN := Lib.hid (And.intro hne (And.intro hrb hge))
  clear h y0 y1 f0 f1 m0 hrb hge hne
  unfold typeT
  go_enter Tryd.func50, Tryd.ntmps50
  go_wp2_with fail
  refine HC.out.mono ?_; rintro e w1 ⟨rfl, h1, hm1⟩
  have HD := Lib.hid (number_any ae w0 rb s (takeI s st).2 w1 h1)
  have M1 := Lib.hid hm1
  clear HC h1 hm1
  go_wp2_with fail
  refine HD.out.mono ?_; rintro e w2 ⟨rfl, h2, hm2⟩
  have M2 := Lib.hid (M1.out.trans hm2 (fun _ _ h => h))
  have y0 := cell_moved M2.out H0.out.1 HN.out.1
  have y1 := cell_moved M2.out H0.out.2.1 HN.out.1
  have f0 := (frozen_moved M2.out (Kit.lt_of_cell H0.out.1) HN.out.1).trans H0.out.2.2.1
  have f1 := (frozen_moved M2.out (Kit.lt_of_cell H0.out.2.1) HN.out.1).trans H0.out.2.2.2.1
  have H2 := Lib.hid h2
  clear HD h2 hm2 M1
  go_wp2
  have m3 : Moved (fun j => j = w.heap.size) w2 ((w2.setCell ⟨w.heap.size, 0, none⟩ (.int .i64 (takeI s st).1)).setCell ⟨w.heap.size, 1, none⟩ (.int .i64 (takeI s (takeI s st).2).1)) := (Kit.Moved.setCell (fun j => j = w.heap.size) w2 ⟨w.heap.size, 0, none⟩ _ rfl).trans (Kit.Moved.setCell (fun j => j = w.heap.size) _ ⟨w.heap.size, 1, none⟩ _ rfl) (fun _ _ h => h)
  exact bodyPost_ret (v := .agg #[.int .i64 (takeI s st).1, .int .i64 (takeI s (takeI s st).2).1]) (by simp [results, Tryd.results50, go_sem, y0, y1]) rfl
    ⟨rfl, H2.out.moved m3 (fun k hk => by have := HN.out.2.2; omega) (fun h => HN.out.1 h.symm), (H0.out.2.2.2.2.trans M2.out (fun _ _ h => h)).trans m3 (fun i hi hk => by omega)⟩

set_option maxRecDepth 100000 in
set_option maxHeartbeats 1000000 in
theorem fieldT_any (ae : Addr) (w0 : World) (rb : Nat) (s : ByteArray) (st : Int × Int) (w : World) (h : RC ae w0 rb s st w) :
    Calls Tryd.prog 30 #[.pointer (some ⟨rb, 0, none⟩)] w fun e w' =>
      e = .returned (aggFd (fieldT s st).1) ∧ RC ae w0 rb s (fieldT s st).2 w' ∧ Moved (fun j => j = rb) w w' := by
  have hrb : rb < w.heap.size := Kit.lt_of_cell h.c0
  have hge := h.below.size
  have y0 := Val.boxF_new w (.string ⟨#[]⟩) (.int .i64 0) (.int .i64 0) (.bool false) 46
  have m0 : Moved (fun j => j = rb) w (w.alloc (.cells #[.string ⟨#[]⟩, .int .i64 0, .int .i64 0, .bool false] 46)) := Kit.Moved.alloc _ _ _
  have HC := Lib.hid (text_any ae w0 rb s st _ (h.later (Kit.below_alloc w (.cells #[.string ⟨#[]⟩, .int .i64 0, .int .i64 0, .bool false] 46))))
  have H0 := Lib.hid (And.intro y0 m0)
  have hne : ¬ w.heap.size = rb := by omega
  have HN := Lib.hid (And.intro hne (And.intro hrb hge))
  clear h y0 m0 hrb hge hne
  unfold fieldT
  go_enter Tryd.func30, Tryd.ntmps30
  go_wp2_with fail
  refine HC.out.mono ?_; rintro e w1 ⟨rfl, h1, hm1⟩
  have HD := Lib.hid (valType_any ae w0 rb s (takeT s st).2 w1 h1)
  have M1 := Lib.hid hm1
  clear HC h1 hm1
  go_wp2_with fail
  refine HD.out.mono ?_; rintro e w2 ⟨rfl, h2, hm2⟩
  have M2 := Lib.hid (M1.out.trans hm2 (fun _ _ h => h))
  have HF := Lib.hid (flag_any ae w0 rb s (typeT s (takeT s st).2).2 w2 h2)
  clear HD h2 hm2 M1
  go_wp2_with fail
  refine HF.out.mono ?_; rintro e w3 ⟨rfl, h3, hm3⟩
  have M3 := Lib.hid (M2.out.trans hm3 (fun _ _ h => h))
  have H3 := Lib.hid h3
  clear HF h3 hm3 M2
  obtain ⟨⟨y0, y1, y2, y3⟩, yf⟩ := H0.out.1.moved M3.out HN.out.1
  have yf0 := yf 0
  have yf1 := yf 1
  have yf2 := yf 2
  have yf3 := yf 3
  clear yf
  go_wp2
  have m4 := Val.end4b w.heap.size w3 (.string (takeT s st).1) (.int .i64 (typeT s (takeT s st).2).1.1) (.int .i64 (typeT s (takeT s st).2).1.2) (.bool (flagT s (typeT s (takeT s st).2).2).1)
  exact bodyPost_ret (v := .agg #[.string (takeT s st).1, .int .i64 (typeT s (takeT s st).2).1.1, .int .i64 (typeT s (takeT s st).2).1.2, .bool (flagT s (typeT s (takeT s st).2).2).1]) (by simp [results, Tryd.results30, go_sem, y0, y1, y2, y3]) rfl
    ⟨rfl, H3.out.moved m4 (fun k hk => by have := HN.out.2.2; omega) (fun h => HN.out.1 h.symm), (H0.out.2.trans M3.out (fun _ _ h => h)).trans m4 (fun i hi hk => by omega)⟩
end Go.Proofs.YtmobnlofbopbeaaDoor.Cls
