/- Layer 8: the reference's Name and Places. -/
import Derived.Test.YtdnaildhcnekfaaDoorShpR
import Derived.Test.YtdnaildhcnekfaaDoorShpN
namespace Go.Proofs.YtdnaildhcnekfaaDoor
open Go.RowKit
set_option linter.unusedVariables false
theorem refNumber_any (z : Int) (h0 : 0 ≤ z) (h1 : z < 1048576) (w : World) :
    Calls Tryd.prog 36 #[.int .i64 z] w fun e w' => e = .returned (.string ⟨(smallD z).toArray⟩) ∧ w' = w := by
  obtain ⟨n, rfl⟩ : ∃ n : Nat, z = n := ⟨z.toNat, by omega⟩
  have HU := Lib.hid (unsigned_any n (by omega) w)
  have hw : IntKind.u64.wrap (n : Int) = (n : Int) := IntWalk.u64_in _ (by omega)
  go_enter Tryd.func36, Tryd.ntmps36
  go_wp2_with fail
  refine HU.out.mono ?_
  rintro e w' ⟨rfl, rfl⟩
  go_wp2_with fail
  go_ret
  exact ⟨by unfold smallD; rw [Int.toNat_natCast]; rfl, rfl⟩
set_option maxRecDepth 4000 in
set_option maxHeartbeats 2000000 in
theorem refName_any (k r c : Int) (hk : 0 ≤ k ∧ k < 1048576) (hr : 0 ≤ r ∧ r < 1048576) (hc : -1 ≤ c ∧ c < 1048576) (w : World) :
    Calls Tryd.prog 26 #[.agg #[.int .i64 k, .int .i64 r, .int .i64 c]] w fun e w' => e = .returned (.string ⟨(nameL (k, r, c)).toArray⟩) ∧ Below w.heap.size w w' := by
  have bA := (Below.refl w.heap.size w).alloc (Nat.le_refl _) (.cells #[.int .i64 k, .int .i64 r, .int .i64 c] 49)
  have cN := cell_new w #[.int .i64 k, .int .i64 r, .int .i64 c] 49
  have c0 := (cN 0).trans rfl
  have c1 := (cN 1).trans rfl
  have c2 := (cN 2).trans rfl
  have hnm : Hid (nameL (k, r, c) = if c < 0 then 98 :: (smallD k ++ 46 :: smallD r) else 119 :: (smallD k ++ 46 :: (smallD r ++ 46 :: smallD c))) := Lib.hid (by
    unfold nameL name2 name3 smallD
    rw [dec_digs, dec_digs, dec_digs])
  have Hk := Lib.hid (refNumber_any k hk.1 hk.2)
  have Hr := Lib.hid (refNumber_any r hr.1 hr.2)
  have l1 := smallD_len k hk.2
  have l2 := smallD_len r hr.2
  have l3 := smallD_len c hc.2
  clear cN
  by_cases h0 : c < 0
  · have g0 : decide (c < 0) = true := by simpa using h0
    rw [if_pos h0] at hnm
    generalize smallD k = dk at *
    generalize smallD r = dr at *
    go_enter Tryd.func26, Tryd.ntmps26
    go_wp2_with fail
    go_quiet ((go_at_call 36; first | exact Calls.quiet_of_same (Hk.out _) | exact Calls.quiet_of_same (Hr.out _)))
    have BD := below_drewN bA nq
    go_wp2_with fail
    go_ret
    exact ⟨by rw [hnm.out]; exact congrArg (fun b => Ending.returned (Value.string b)) (show (⟨#[98]⟩ ++ ⟨dk.toArray⟩ ++ ⟨#[46]⟩ ++ ⟨dr.toArray⟩ : ByteArray) = _ by apply ByteArray.ext; simp [ByteArray.data_append]), BD⟩
  · have g0 : decide (c < 0) = false := by simpa using h0
    rw [if_neg h0] at hnm
    have Hc := Lib.hid (refNumber_any c (by omega) hc.2)
    generalize smallD k = dk at *
    generalize smallD r = dr at *
    generalize smallD c = dc at *
    go_enter Tryd.func26, Tryd.ntmps26
    go_wp2_with fail
    go_quiet ((go_at_call 36; first | exact Calls.quiet_of_same (Hk.out _) | exact Calls.quiet_of_same (Hr.out _) | exact Calls.quiet_of_same (Hc.out _)))
    have BD := below_drewN bA nq
    go_wp2_with fail
    go_ret
    exact ⟨by rw [hnm.out]; exact congrArg (fun b => Ending.returned (Value.string b)) (show (⟨#[119]⟩ ++ ⟨dk.toArray⟩ ++ ⟨#[46]⟩ ++ ⟨dr.toArray⟩ ++ ⟨#[46]⟩ ++ ⟨dc.toArray⟩ : ByteArray) = _ by apply ByteArray.ext; simp [ByteArray.data_append]), BD⟩
theorem elemPl : Elem Tryd.prog 41 49 (.agg #[.int .i64 0, .int .i64 0, .int .i64 0]) 3 24 := ⟨Tryd.underlying41, info_parts (by kernel_rfl), rfl, by decide⟩
/-- the cells of places -/
def pcells (l : List (Int × Int × Int)) : List Value := l.flatMap fun p => [.int .i64 p.1, .int .i64 p.2.1, .int .i64 p.2.2]
theorem pcells_append (a b : List (Int × Int × Int)) : pcells (a ++ b) = pcells a ++ pcells b := by simp [pcells]
theorem pcells_length (l : List (Int × Int × Int)) : (pcells l).length = 3 * l.length := by
  induction l with
  | nil => rfl
  | cons p l ih =>
    have e : pcells (p :: l) = [.int .i64 p.1, .int .i64 p.2.1, .int .i64 p.2.2] ++ pcells l := rfl
    rw [e, List.length_append, ih, List.length_cons]
    simp only [List.length_cons, List.length_nil]
    omega
theorem pcells_at : ∀ (l : List (Int × Int × Int)) (j : Nat) (p : Int × Int × Int), l[j]? = some p → (pcells l)[3 * j]? = some (.int .i64 p.1) ∧ (pcells l)[3 * j + 1]? = some (.int .i64 p.2.1) ∧ (pcells l)[3 * j + 2]? = some (.int .i64 p.2.2)
  | [], j, p, h => by simp at h
  | q :: l, 0, p, h => by
    obtain rfl : q = p := by simpa using h
    exact ⟨rfl, rfl, rfl⟩
  | q :: l, j + 1, p, h => by
    have ih := pcells_at l j p (by simpa using h)
    have e : pcells (q :: l) = [.int .i64 q.1, .int .i64 q.2.1, .int .i64 q.2.2] ++ pcells l := rfl
    have hs : ∀ t, (pcells (q :: l))[3 * (j + 1) + t]? = (pcells l)[3 * j + t]? := fun t => by
      rw [e, List.getElem?_append_right (by simp; omega)]
      congr 1
      simp only [List.length_cons, List.length_nil]
      omega
    exact ⟨(hs 0).trans ih.1, (hs 1).trans ih.2.1, (hs 2).trans ih.2.2⟩
theorem linkW_at (k C R r c : Nat) (hr : r < R) (hc : c < C) : (linkW k C R).take (r * C + (c + 1)) = (linkW k C R).take (r * C + c) ++ [((k : Int), (r : Int), (c : Int))] := by
  have h1 : r * C + c < R * C := by
    have : (r + 1) * C ≤ R * C := Nat.mul_le_mul_right C hr
    rw [Nat.add_mul, Nat.one_mul] at this
    omega
  rw [← Nat.add_assoc, List.take_add_one]
  congr 1
  unfold linkW
  rw [List.getElem?_map, List.getElem?_range h1]
  have e1 : (r * C + c) / C = r := by rw [Nat.mul_comm, Nat.mul_add_div (by omega), Nat.div_eq_of_lt hc]; rfl
  have e2 : (r * C + c) % C = c := by rw [Nat.mul_comm, Nat.mul_add_mod, Nat.mod_eq_of_lt hc]
  show [((k : Int), (((r * C + c) / C : Nat) : Int), (((r * C + c) % C : Nat) : Int))] = _
  rw [e1, e2]
theorem linkB_at (k R r : Nat) (hr : r < R) : (linkB k R).take (r + 1) = (linkB k R).take r ++ [((k : Int), (r : Int), -1)] := by
  rw [List.take_add_one]
  congr 1
  unfold linkB
  rw [List.getElem?_map, List.getElem?_range hr]
  rfl
end Go.Proofs.YtdnaildhcnekfaaDoor
