/- Layer 10: DataChecks. -/
import Derived.Test.YtcnabebcckbfkaaDoorDatA
import Derived.Test.YtcnabebcckbfkaaDoorDatC
namespace Go.Proofs.YtcnabebcckbfkaaDoor
open Go.RowKit
set_option linter.unusedVariables false
set_option maxHeartbeats 1000000 in
theorem walk_checks (v : Value) (es : List Ex) (p q : Int) (hm : es.length ≤ maxLen) (w : World) (ht : Pow10 w) (hv : ExsAt w.heap.size w v es) :
    Calls Tryd.prog 5 #[v, .int .i64 p, .int .i64 q] w fun e w' => e = .returned (.bool true) ∧ Below w.heap.size w w' := by
  have HF := Lib.hid (fewD_any v es hm w hv)
  unfold FewD at HF
  have HA := Lib.hid (fun W (hW : Below w.heap.size w W) => alive10_any W (ht.later hW))
  have HV := Lib.hid (fun W (hW : Below w.heap.size w W) => (hv.below hW).grow hW.size)
  obtain ⟨a, c, rfl⟩ := hv.value
  clear hv ht
  go_enter Tryd.func5, Tryd.ntmps5
  go_wp2_with fail
  refine HF.out.mono ?_
  rintro e w1 ⟨⟨b, rfl, _⟩, b1⟩
  have B1 := Lib.hid b1
  clear HF b1
  cases b
  · go_wp2_with fail
    refine (HA.out _ B1.out).mono ?_
    rintro e w2 ⟨rfl, b2⟩
    have B2 := B1.out.trans (b2.mono B1.out.size)
    clear B1 b2
    go_wp2_with fail
    go_ret
    exact ⟨rfl, B2⟩
  · have H2 := Lib.hid (fun W hW => checkD_any _ es p q hm W (HV.out W hW))
    have H3 := Lib.hid (fun W hW => refCheckD_any _ es p q hm W (HV.out W hW))
    unfold Checked at H2 H3
    generalize (chk es p q).1 = i at *
    generalize (chk es p q).2 = ok at *
    have q1 : (i == i) = true := by simp
    have q2 : (ok == ok) = true := by simp
    go_wp2_with fail
    refine (H2.out w1 B1.out).mono ?_
    rintro e w2 ⟨rfl, b2⟩
    have B2 := Lib.hid (B1.out.trans (b2.mono B1.out.size))
    clear B1 b2 H2
    go_wp2_with fail
    refine (H3.out w2 B2.out).mono ?_
    rintro e w3 ⟨rfl, b3⟩
    have B3 := Lib.hid (B2.out.trans (b3.mono B2.out.size))
    clear B2 b3 H3
    go_wp2_with fail
    refine (HA.out _ B3.out).mono ?_
    rintro e w4 ⟨rfl, b4⟩
    have B4 := B3.out.trans (b4.mono B3.out.size)
    clear B3 b4
    go_wp2_with fail
    go_ret
    exact ⟨by first | rfl | (simp; done), B4⟩
end Go.Proofs.YtcnabebcckbfkaaDoor
