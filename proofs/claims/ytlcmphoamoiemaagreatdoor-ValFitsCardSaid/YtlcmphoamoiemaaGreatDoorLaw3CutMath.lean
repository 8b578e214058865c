/- Layer 3's laws: what ValCut and others share. -/
import Derived.Test.YtlcmphoamoiemaaGreatDoorLaw3Awake
import Derived.Test.YtlcmphoamoiemaaGreatDoorValDecFull
namespace Go.Proofs.YtlcmphoamoiemaaGreatDoor.Val
open Go.RowKit
open Kit (ret_int ret_bool Moved)

attribute [local go_sem] Oper.semAt_some

def listIn : Vl := .mk 5 0 (bs []) [flat 5 0 (bs [])]
def listOne : Vl := .mk 5 0 (bs []) [flat 0 0 (bs [])]
theorem cut1 : rightV listIn = false := by kernel_rfl
theorem cut2 : rightV listOne = true ∧ encV listOne = [10, 2, 0] := ⟨by kernel_rfl, by kernel_rfl⟩
theorem cut3 : decR ((bs [10, 2, 0]).extract 0 2 ++ ⟨#[10, 0]⟩) 0 = .inl 30 := by kernel_rfl
theorem cut4 : sameV (flat 0 0 (bs [])) (flat 0 0 (bs [])) = true := by kernel_rfl
theorem one_fits (k : Int) : (Vl.mk 5 0 (bs []) [flat k 0 (bs [])]).fits := ⟨by show (bs []).size ≤ _; decide, fun y hy => by
  simp only [Vl.l, List.mem_cons, List.not_mem_nil, or_false] at hy
  subst hy; show (bs []).size ≤ _; decide⟩
theorem one_new (W : World) (k : Int) : Rep (W.alloc (.cells #[.int .i64 k, .int .i64 0, .string ⟨#[]⟩, .slice none 0 0] 30)).heap.size (W.alloc (.cells #[.int .i64 k, .int .i64 0, .string ⟨#[]⟩, .slice none 0 0] 30)) (.mk 5 0 (bs []) [flat k 0 (bs [])]) (.agg #[.int .i64 5, .int .i64 0, .string ⟨#[]⟩, .slice (some ⟨W.heap.size, 0, none⟩) 1 1]) := by
  refine rep_mk.2 ⟨_, rfl, .inr ⟨W.heap.size, 0, 1, by simp, by simp, rfl, Nat.le_refl 1, by decide, repC_flat _ _ ?_ ?_⟩⟩
  · intro y hy
    simp only [List.mem_cons, List.not_mem_nil, or_false] at hy
    subst hy; rfl
  · intro j u hu
    rw [show [flat k 0 (bs [])].flatMap cellsF = [.int .i64 k, .int .i64 0, .string ⟨#[]⟩, .slice none 0 0] from rfl] at hu
    exact Kit.cell_new W _ _ (0 + j) (by simpa using hu)
theorem take_bs (l : List UInt8) (k : Nat) : (bs l).extract 0 k = bs (l.take k) := by
  apply bytes_ext
  rw [extract_list, bs_list, bs_list]
  simp

theorem ext_size (s : ByteArray) (m : Nat) : (s.extract 0 m).size = min m s.size := by rw [← data_len, extract_list, List.length_take, List.length_drop, data_len]; omega
end Go.Proofs.YtlcmphoamoiemaaGreatDoor.Val
