/- Layer 3's laws: are two lists of numbers the same? -/
import Derived.Test.YtbmhlpojgiminaaGreatDoorME
namespace Go.Proofs.YtbmhlpojgiminaaGreatDoor.Val
open Go.RowKit
open Kit (ret_int ret_bool Moved)

attribute [local go_sem] Oper.semAt_some

set_option maxRecDepth 100000 in
set_option maxHeartbeats 1000000 in
/-- nums, of one list. -/
theorem nums_same (l : List Int) (w : World) (va vb : Value) (h1 : Nums w l va) (h2 : Nums w l vb) :
    Calls Tryz.prog 13 #[va, vb] w fun e w' => e = .returned (.bool true) ∧ Below w.heap.size w w' := by
  obtain ⟨a1, c1, rfl, hm, g1⟩ := h1
  obtain ⟨a2, c2, rfl, -, g2⟩ := h2
  unfold maxLen at hm
  have HG := Lib.hid (And.intro g1 g2)
  clear g1 g2
  go_enter Tryz.func13, Tryz.ntmps13
  go_upto_region 4 with fail
  go_loopw [5] (fun i wr => ∃ k : Nat, k ≤ l.length ∧ i = .int .i64 k ∧ Below w.heap.size w wr) (fun i _ => l.length - (intOf i).toNat)
  case atStart => exact ⟨0, by omega, rfl, Below.refl _ _⟩
  case round =>
    obtain ⟨k, hk, rfl, hB⟩ := hrel
    by_cases hlt : k < l.length
    · have j1 : (k : Int) < (l.length : Int) := by omega
      obtain ⟨z, hz⟩ : ∃ z, l[k]? = some z := ⟨_, List.getElem?_eq_getElem hlt⟩
      obtain ⟨b1, o1, rfl, hb1, d1⟩ := HG.out.1 k z hz
      obtain ⟨b2, o2, rfl, hb2, d2⟩ := HG.out.2 k z hz
      have u1 := (hB.cell (p := ⟨b1, o1 + k, none⟩) hb1).trans d1
      have u2 := (hB.cell (p := ⟨b2, o2 + k, none⟩) hb2).trans d2
      have HB := Lib.hid hB
      clear hz hb1 d1 hb2 d2 hB
      go_upto_region 6 with fail
      go_quiet (fail)
      go_wp2
      go_roundw
      case rel => exact ⟨k + 1, by omega, by go_num, Kit.bdN HB.out _⟩
      case measure => simp [intOf]; omega
    · have hkk : k = l.length := by omega
      subst hkk
      have j1 : ¬ (l.length : Int) < (l.length : Int) := by omega
      have HB := Lib.hid hB
      clear hB
      go_wp2
      go_ret
      exact ⟨rfl, HB.out⟩
end Go.Proofs.YtbmhlpojgiminaaGreatDoor.Val
