/- Which of n things a raw number speaks of. -/
import Derived.Test.YtbmhlpojgiminaaGreatDoorKit
namespace Go.Proofs.YtbmhlpojgiminaaGreatDoor.Val

/-- Which of n things a raw number speaks of. -/
def pickN (c : Int) (n : Nat) : Nat := if c < 0 then (-(c + 1)).toNat % n else c.toNat % n
theorem pickN_lt (c : Int) {n : Nat} (h : 0 < n) : pickN c n < n := by unfold pickN; split <;> exact Nat.mod_lt _ h

end Go.Proofs.YtbmhlpojgiminaaGreatDoor.Val
