/- Layer 3: what is laid: the tables of UTF-8, and wire's error; the library's calls. -/
import Derived.Test.YtbmhlpojgiminaaGreatDoorShelf
import Derived.Test.YtbmhlpojgiminaaGreatDoorWireText
import Derived.Test.YtbmhlpojgiminaaGreatDoorKit6
namespace Go.Proofs.YtbmhlpojgiminaaGreatDoor.Val
open Go.RowKit Go.Shelf

/-- What is laid. -/
structure Env (ae : Addr) (w : World) : Prop where
  lt : 2 < w.heap.size
  err : w.cell? ⟨2, 0, none⟩ = some (Wire.evOf ae)
  tabs : Lib.Utf8Tabs 0 1 w

theorem Env.below {ae : Addr} {w w' : World} (h : Env ae w) (hB : Below w.heap.size w w') : Env ae w' :=
  ⟨Nat.lt_of_lt_of_le h.lt hB.size, (hB.cell (p := ⟨2, 0, none⟩) h.lt).trans h.err, Utf8Tabs_below h.tabs hB⟩

theorem valid_any (s : ByteArray) (hs : s.size ≤ 140737488351232) (w : World) (hT : Lib.Utf8Tabs 0 1 w) :
    Calls Tryz.prog 68 #[.string s] w fun e w' => e = .returned (.bool (Lib.validD s.data.toList)) ∧ Below w.heap.size w w' :=
  Any.utf8_ValidString Tryz.lays196 s w (by omega) hT

/-- Is a sign one that no text has? -/
def ctl (c : Nat) : Bool := decide (c < 32) || c == 127

theorem control_any (x : Nat) (hx : x ≤ 1114111) (w : World) : Calls Tryz.prog 70 #[.int .i32 (x : Int)] w fun e w' => e = .returned (.bool (ctl x)) ∧ w = w' := by
  unfold ctl
  by_cases h : x < 32
  · have h2 : (x : Int) < 32 := by omega
    rw [decide_eq_true h, Bool.true_or]
    go_enter Tryz.func70, Tryz.ntmps70
    go_wp2
    go_ret
    exact ⟨rfl, rfl⟩
  · have h2 : ¬ (x : Int) < 32 := by omega
    rw [decide_eq_false h, Bool.false_or]
    cases h3 : (x == 127)
    · have h4 : ((x : Int) == 127) = false := by simp at h3 ⊢; omega
      clear h3
      go_enter Tryz.func70, Tryz.ntmps70
      go_wp2
      go_ret
      exact ⟨rfl, rfl⟩
    · have h4 : ((x : Int) == 127) = true := by simp at h3 ⊢; omega
      clear h3
      go_enter Tryz.func70, Tryz.ntmps70
      go_wp2
      go_ret
      exact ⟨rfl, rfl⟩

theorem ctl_grows (w : World) : PredGrows Tryz.prog 70 #[] ctl w := fun W x hx _ =>
  (control_any x hx W).mono fun _ _ ⟨he, hw⟩ => ⟨he, hw ▸ Below.refl _ _⟩

/-- Has a text a sign that none has? -/
def hasCtl (s : ByteArray) : Bool := decide (0 ≤ Lib.idxFunc ctl true s)
theorem contains_any (s : ByteArray) (w : World) :
    Calls Tryz.prog 69 #[.string s, .func (.func 70) #[] #[]] w fun e w' => e = .returned (.bool (hasCtl s)) ∧ Below w.heap.size w w' :=
  Tryz.strings_ContainsFunc_grows 70 #[] (fun args w => by kernel_rfl) ctl s w (ctl_grows w)
end Go.Proofs.YtbmhlpojgiminaaGreatDoor.Val
