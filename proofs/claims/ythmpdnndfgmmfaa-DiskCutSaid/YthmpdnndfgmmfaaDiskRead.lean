/- Layer 2: the walk of Read. -/
import Derived.Test.YthmpdnndfgmmfaaDiskNew
import Derived.Deep.Cut
import Derived.Deep.CutRange
namespace Go.Proofs.Ythmpdnndfgmmfaa.Disk
open Go.RowKit

attribute [local go_sem] Oper.semAt_some

def strB (s : List UInt8) : ByteArray := ⟨s.toArray⟩
def Dk.read (D : Dk) (a : Int) : ByteArray × Int := if 0 ≤ a ∧ a < D.n then (strB (D.there a.toNat), 0) else (⟨#[]⟩, 20)

theorem foldl_len (n : Nat) : ∀ (l : List (Nat × List UInt8)) (K : Nat → List UInt8), (∀ i, (K i).length = n) → (∀ x ∈ l, x.2.length = n) → ∀ i, (l.foldl layK K i).length = n
  | [], K, h, _, i => h i
  | x :: l, K, h, hl, i => foldl_len n l (layK K x) (fun j => by
      unfold layK; split
      · exact hl x (by simp)
      · exact h j) (fun y hy => hl y (by simp [hy])) i
theorem Dk.Ok.there_len {D : Dk} (h : D.Ok) (a : Nat) : (D.there a).length = 64 := foldl_len 64 D.pend D.kept h.kept (fun x hx => (h.pend x hx).2) a

/-- string(s[:]) of an array that lies at a block's head. -/
theorem conv_sec {P : Program} {W : World} {b e : Nat} {s : List UInt8} {k : Nat} (hk : s.length = k) (h : W.rangeAt b 0 (secV s)) {src dst : TypeId}
    (hs : P.underlying src = some (.slice e)) (he : P.underlying e = some (.int .u8)) (hd : P.underlying dst = some .string) :
    (convert src dst (.slice (some ⟨b, 0, none⟩) k k)).run P W = .ok (.string (strB s)) W := by
  have h1 := run_convert_bytes_arg W src e hs he b 0 k k (s.map fun b => (b.toNat : Int)) (by simp [hk]) (fun i hi => by
    have := h i (byteV (s[i]'(by omega))) (by simp [secV, List.getElem?_eq_getElem (show i < s.length by omega)])
    rw [this]
    simp [byteV, List.getD, List.getElem?_eq_getElem (show i < s.length by omega)]) dst hd
  rw [h1]
  congr 2
  unfold strOfNums strB
  congr 1
  simp [List.map_map, Function.comp_def]

set_option maxRecDepth 100000 in
set_option maxHeartbeats 2000000 in
theorem read_any {w : World} {F : Foot} {D : Dk} (h : On w F D) (a : Int) (h1 : -9223372036854775808 ≤ a) (h2 : a ≤ 9223372036854775807) :
    Calls Try.prog 16 #[.pointer (some ⟨F.p, 0, none⟩), .int .i64 a] w fun e w' => e = .returned (.tuple #[.string (D.read a).1, .int .i64 (D.read a).2]) ∧ Below w.heap.size w w' := by
  have hH := Lib.hid h; clear h
  by_cases hin : 0 ≤ a ∧ a < D.n
  · obtain ⟨n, rfl⟩ := Int.eq_ofNat_of_zero_le hin.1
    have hn : n < D.n := by omega
    have hv : D.read (n : Int) = (strB (D.there n), 0) := by unfold Dk.read; rw [if_pos hin]; rfl
    rw [hv]
    have hd : decide ((0 : Int) ≤ n ∧ (n : Int) < D.n) = true := decide_eq_true hin
    have hc := has_any hH.out (n : Int) h1 h2
    rw [hd] at hc
    have HC := Lib.hid hc
    have HI := Lib.hid (And.intro hin hn)
    clear hin hv hd hn hc
    go_enter Try.func16, Try.ntmps16
    go_wp2_with (go_at_call 29; refine HC.out.mono ?_; rintro e w' ⟨rfl, rfl⟩)
    refine (there_any hH.out n HI.out.2).mono ?_
    rintro e w2 ⟨rfl, hB⟩
    have hlen : (secV (D.there n)).toArray.size = 64 := by simp [secV_len, hH.out.ok.there_len]
    have hst : (w2.alloc (.cells (secV zeros).toArray 61)).there w2.heap.size 0 (secV (D.there n)).toArray.size := by rw [hlen]; exact there_new w2 (secV zeros) 61
    have hin2 : (Try.prog.info? 61).map (·.size) = some (secV (D.there n)).toArray.size := by rw [hlen]; kernel_rfl
    have HS := Lib.hid hst
    have HN := Lib.hid hin2
    have HL := Lib.hid hlen
    clear hst hin2 hlen
    go_upto_region 6 with (refine wpList_store_mid rfl 61 _ _ rfl w2.heap.size 0 (secV (D.there n)).toArray rfl rfl HS.out HN.out (all_oneCell_toArray (secV_one _)) ?_)
    obtain ⟨W4, hW4⟩ : ∃ W4, W4 = (w2.alloc (.cells (secV zeros).toArray 61)).setCells w2.heap.size 0 (secV (D.there n)) := ⟨_, rfl⟩
    have hr4 : W4.rangeAt w2.heap.size 0 (secV (D.there n)) := by
      rw [hW4]; exact World.rangeAt_setCells_same _ _ _ _ (by have := HS.out; rw [show (secV (D.there n)).toArray.size = (secV (D.there n)).length by simp] at this; exact this)
    have hB4 : Below w.heap.size w W4 := by
      rw [hW4]
      exact hB.trans (((Moved.alloc (fun k => k = w2.heap.size) w2 _).trans (moved_setCells (fun k => k = w2.heap.size) _ rfl _ _ _) fun _ _ x => x).below (fun k (e : k = w2.heap.size) => by have := hB.size; omega) hB.size)
    have hcv := conv_sec (P := Try.prog) (hH.out.ok.there_len n) hr4 Try.underlying67 Try.underlying5 Try.underlying9
    change Code.wp _ _ _ _ ((w2.alloc (.cells (secV zeros).toArray 61)).setCells w2.heap.size 0 (secV (D.there n)))
    rw [← hW4]
    clear hW4 hr4 hB
    go_wp2
    go_ret2
    exact ⟨rfl, hB4⟩
  · have hv : D.read a = (⟨#[]⟩, 20) := by unfold Dk.read; rw [if_neg hin]
    rw [hv]
    have hd : decide ((0 : Int) ≤ a ∧ a < D.n) = false := decide_eq_false hin
    have hc := has_any hH.out a h1 h2
    rw [hd] at hc
    have HC := Lib.hid hc
    clear hin hv hd hc
    go_enter Try.func16, Try.ntmps16
    go_wp2_with (go_at_call 29; refine HC.out.mono ?_; rintro e w' ⟨rfl, rfl⟩)
    go_ret2
    exact ⟨rfl, Below.refl _ _⟩
end Go.Proofs.Ythmpdnndfgmmfaa.Disk
