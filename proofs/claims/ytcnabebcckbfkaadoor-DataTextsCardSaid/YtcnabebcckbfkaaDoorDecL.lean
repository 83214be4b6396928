/- Layer 2: the table of the powers of ten, out of the row's condition. -/
import Derived.Test.YtcnabebcckbfkaaDoorRows
import Derived.Test.YtcnabebcckbfkaaDoorDecU
import Derived.LaidSub
import Derived.Lib.LaidTab
namespace Go.Proofs.YtcnabebcckbfkaaDoor
open Go.RowKit
theorem pow10_of {laid : List (String × DataW Unit)} {W : World} (he : laid.filter (fun x => x.1 == "internal/strconv.uint64pow10") = [("internal/strconv.uint64pow10", Lib.tabData .u64 Lib.pow10Tab)]) (h : laidMetH Tryd.prog laid W) : Pow10 W := by
  have h1 := h.filter (fun x => x.1 == "internal/strconv.uint64pow10")
  rw [he] at h1
  exact Lib.tabIs_of_head (P := Tryd.prog) (g := 0) (by kernel_rfl) (by kernel_rfl) Tryd.underlying135 Tryd.underlying73 (by kernel_rfl) (by kernel_rfl) h1
end Go.Proofs.YtcnabebcckbfkaaDoor
