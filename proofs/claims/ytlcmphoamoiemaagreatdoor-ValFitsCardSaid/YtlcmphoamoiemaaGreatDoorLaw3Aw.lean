/- Layer 3's laws: what awake's calls answer. -/
import Derived.Test.YtlcmphoamoiemaaGreatDoorLaw3Of
import Derived.Test.YtlcmphoamoiemaaGreatDoorValRead
import Derived.Test.YtlcmphoamoiemaaGreatDoorValCmpMath
namespace Go.Proofs.YtlcmphoamoiemaaGreatDoor.Val
open Go.RowKit
open Kit (ret_int ret_bool Moved)

def fourL : List Vl := [flat 1 1 (bs []), flat 2 0 (bs [97, 34, 98]), flat 3 7 (bs []), flat 0 0 (bs [])]
def fourV : Vl := .mk 5 0 (bs []) fourL
theorem aw1 : readR ⟨#[91, 49, 32, 34, 97, 92, 34, 98, 34, 32, 64, 55, 32, 45, 93]⟩ 0 = .inr (fourV, 15) := by kernel_rfl
theorem aw2 : readR ⟨#[120, 45, 53]⟩ 1 = .inr (flat 1 (-5) (bs []), 3) := by kernel_rfl
theorem aw3 : readR ⟨#[45, 32, 53]⟩ 0 = .inr (flat 0 0 (bs []), 1) := by kernel_rfl
theorem aw4 : readR ⟨#[48, 48, 55]⟩ 0 = .inr (flat 1 0 (bs []), 1) := by kernel_rfl
theorem aw5 : rightV (flat 1 1 (bs [])) = true ∧ encV (flat 1 1 (bs [])) = [2, 2] := ⟨by kernel_rfl, by kernel_rfl⟩
theorem aw6 : decR ⟨#[]⟩ 0 = .inl 10 := by kernel_rfl
theorem aw7 : decR ⟨#[12]⟩ 0 = .inl 30 := by kernel_rfl
theorem aw8 : readR ⟨#[120]⟩ 0 = .inl 30 := by kernel_rfl
theorem aw9 : decR ⟨#[]⟩ 1 = .inl 2 := by kernel_rfl
theorem aw10 : rightV fourV = true := by kernel_rfl
theorem aw11 : rightV (flat 0 1 (bs [])) = false := by kernel_rfl
theorem aw12 : sameV fourV fourV = true := by kernel_rfl
theorem aw13 : sameV fourV (flat 1 (-5) (bs [])) = false := by kernel_rfl
theorem aw14 : sameV (flat 1 (-5) (bs [])) (flat 1 (-5) (bs [])) = true := by kernel_rfl
end Go.Proofs.YtlcmphoamoiemaaGreatDoor.Val
