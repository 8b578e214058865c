/- Layer 3: texts as lists of bytes; what the bytes of a value are. -/
import Derived.Test.YtbmhlpojgiminaaGreatDoorValRight
import Derived.Test.YtbmhlpojgiminaaGreatDoorWireText
namespace Go.Proofs.YtbmhlpojgiminaaGreatDoor.Val
open Go.RowKit
open Kit (ret_int ret_bool)
open Wire (numB)

/-- A text of these bytes. -/
abbrev bs (l : List UInt8) : ByteArray := ⟨l.toArray⟩
theorem bs_append (a b : List UInt8) : bs a ++ bs b = bs (a ++ b) := by
  apply ByteArray.ext
  simp [ByteArray.data_append]
theorem bs_size (l : List UInt8) : (bs l).size = l.length := by show l.toArray.size = _; simp
theorem bs_data (s : ByteArray) : bs s.data.toList = s := by cases s; rfl
theorem bs_list (l : List UInt8) : (bs l).data.toList = l := by simp

theorem data_len (s : ByteArray) : s.data.toList.length = s.size := Array.length_toList

/-- The bytes of a value that is no list. -/
def encF (x : Vl) : List UInt8 :=
  if x.k = 1 ∨ x.k = 3 ∨ x.k = 4 then numB x.k ++ numB x.n else if x.k = 2 then numB x.k ++ (numB (x.s.size : Int) ++ x.s.data.toList) else numB x.k
/-- The bytes of a value. -/
def encV (x : Vl) : List UInt8 := if x.k = 5 then numB x.k ++ numB (x.l.length : Int) ++ x.l.flatMap encF else encF x

theorem textB_bs (s : ByteArray) : Wire.textB s = bs (numB (s.size : Int) ++ s.data.toList) := by
  unfold Wire.textB
  rw [← bs_append, bs_data]

/-- Numbers that fit. -/
def Vl.ints (x : Vl) : Prop := -9223372036854775808 ≤ x.k ∧ x.k ≤ 9223372036854775807 ∧ -9223372036854775808 ≤ x.n ∧ x.n ≤ 9223372036854775807

theorem encF_len (x : Vl) (h : x.s.size ≤ 10000) : (encF x).length ≤ 20 + 10000 := by
  have h1 := Wire.numB_len x.k
  have h2 := Wire.numB_len x.n
  have h3 := Wire.numB_len (x.s.size : Int)
  have h4 : x.s.data.toList.length = x.s.size := data_len _
  unfold encF
  split
  · rw [List.length_append]; omega
  · split
    · rw [List.length_append, List.length_append]; omega
    · omega

theorem add_bs {P : Program} (a b : List UInt8) (h : a.length + b.length ≤ 9223372036854775807) (W : World) : (Op.stringOp .add (bs a) (bs b)).run P W = .ok (.string (bs (a ++ b))) W := by
  rw [← bs_append]
  exact run_string_add_sum _ _ _ (by rw [bs_size, bs_size]; exact h)
end Go.Proofs.YtbmhlpojgiminaaGreatDoor.Val
