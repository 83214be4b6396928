/- Sums depend neither on the order nor on how vectors are grouped; vectors that are given on; a slice of vectors turned round. -/
import Derived.Test.YtnojcgikgngniaaVecL
import Derived.Test.YtnojcgikgngniaaVecR
namespace Go.Proofs.Ytnojcgikgngniaa
open Go.RowKit Go.Shelf
def AllLen (n : Nat) (l : List (List Int)) : Prop := ∀ y ∈ l, y.length = n
/-- the sum of some vectors, without a look at their lengths -/
def vS : List (List Int) → List Int
  | [] => []
  | z :: r => r.foldl addL z
theorem sumOk_all {z : List Int} {r : List (List Int)} (h : sumOk (z :: r) = true) : AllLen z.length (z :: r) := by
  simp only [sumOk, alike, List.all_eq_true, decide_eq_true_eq] at h
  intro y hy
  rcases List.mem_cons.1 hy with rfl | hy
  · rfl
  · exact h y hy
theorem sum_of_all {n : Nat} {l : List (List Int)} (h : AllLen n l) : sumOk l = true ∧ sumL l = vS l := by
  cases l with
  | nil => exact ⟨rfl, rfl⟩
  | cons z r =>
    have ha : alike z r = true := by
      simp only [alike, List.all_eq_true, decide_eq_true_eq]
      exact fun y hy => by rw [h y (by simp [hy]), h z (by simp)]
    refine ⟨ha, ?_⟩
    simp only [sumL, ha, if_true, vS]
theorem foldl_addL_add (a b : List Int) (r : List (List Int)) : r.foldl addL (addL a b) = addL a (r.foldl addL b) := by
  induction r generalizing b with
  | nil => rfl
  | cons y r ih => rw [List.foldl_cons, List.foldl_cons, addL_assoc, ih]
theorem vS_append (a b : List (List Int)) (ha : a ≠ []) (hb : b ≠ []) : vS (a ++ b) = addL (vS a) (vS b) := by
  cases a with
  | nil => exact absurd rfl ha
  | cons z r =>
    cases b with
    | nil => exact absurd rfl hb
    | cons y t =>
      show (r ++ y :: t).foldl addL z = _
      rw [List.foldl_append, List.foldl_cons, foldl_addL_add]
      rfl
theorem vS_reverse (l : List (List Int)) : vS l.reverse = vS l := by
  induction l with
  | nil => rfl
  | cons z r ih =>
    cases r with
    | nil => rfl
    | cons y t =>
      rw [List.reverse_cons, vS_append _ _ (by simp) (by simp), ih, addL_comm]
      exact (vS_append [z] (y :: t) (by simp) (by simp)).symm
theorem vS_split (l : List (List Int)) (k : Nat) (h0 : 0 < k) (hk : k ≤ l.length) : vS (l.drop k ++ [vS (l.take k)]) = vS l := by
  have hl : l ≠ [] := by rintro rfl; simp at hk; omega
  by_cases he : k = l.length
  · subst he
    rw [List.drop_length, List.take_length]
    rfl
  · rw [vS_append _ _ (List.ne_nil_of_length_pos (by rw [List.length_drop]; omega)) (by simp)]
    have h2 := vS_append (l.take k) (l.drop k) (List.ne_nil_of_length_pos (by rw [List.length_take]; omega)) (List.ne_nil_of_length_pos (by rw [List.length_drop]; omega))
    rw [List.take_append_drop] at h2
    rw [h2, addL_comm]
    rfl
theorem vS_len {n : Nat} {l : List (List Int)} (h : AllLen n l) (hl : l ≠ []) : (vS l).length = n := by
  cases l with
  | nil => exact absurd rfl hl
  | cons z r =>
    have := foldl_addL_length z r (by simp only [alike, List.all_eq_true, decide_eq_true_eq]; exact fun y hy => by rw [h y (by simp [hy]), h z (by simp)])
    rw [h z (by simp)] at this
    exact this
/-! ### vectors in a slice of the call's own -/
def encS (x : Option Addr × Nat × Nat) : Value := .slice x.1 x.2.1 x.2.2
def OwnRows (base n₀ : Nat) (w : World) (v : Value) (zss : List (List Int)) : Prop :=
  ∃ rs : List (Option Addr × Nat × Nat), rs.length = zss.length ∧ w.ownsRow base 26 1 v zss.length (rs.map encS) ∧ ∀ (j : Nat) (x : Option Addr × Nat × Nat) (zs : List Int), rs[j]? = some x → zss[j]? = some zs → IntsW .i64 n₀ w (encS x) zs
theorem OwnRows.rows {base n₀ : Nat} {w : World} {v : Value} {zss : List (List Int)} (h : OwnRows base n₀ w v zss) (h0 : n₀ ≤ w.heap.size) : RowsAt .i64 w.heap.size w v zss := by
  obtain ⟨rs, hl, ho, hr⟩ := h
  refine ⟨rs.map encS, by simpa using hl, SliceAt.of_owns ho, fun j u zs hu hz => ?_⟩
  rw [List.getElem?_map, Option.map_eq_some_iff] at hu
  obtain ⟨x, hx, rfl⟩ := hu
  exact (hr j x zs hx hz).grow h0
theorem OwnRows.later {base n₀ : Nat} {w w' : World} {v : Value} {zss : List (List Int)} (h : OwnRows base n₀ w v zss) (h0 : n₀ ≤ w.heap.size) (hb : Below w.heap.size w w') : OwnRows base n₀ w' v zss := by
  obtain ⟨rs, hl, ho, hr⟩ := h
  exact ⟨rs, hl, own_below ho hb, fun j x zs hx hz => (hr j x zs hx hz).below (hb.mono h0)⟩
theorem elemV : Elem Try.prog 29 26 (.slice none 0 0) 1 24 := ⟨Try.underlying29, info_parts (by kernel_rfl), rfl, by decide⟩
def GivenIs (n₀ : Nat) (zss : List (List Int)) (w : World) (e : Ending) (w' : World) : Prop := ∃ v, e = .returned v ∧ OwnRows w.heap.size n₀ w' v zss ∧ Below w.heap.size w w'
set_option maxHeartbeats 1000000 in
theorem given_any (v : Value) (zss : List (List Int)) (hl : zss.length * 24 ≤ 140737488351232) (n₀ : Nat) (w : World) (h0 : n₀ ≤ w.heap.size) (hv : RowsAt .i64 n₀ w v zss) :
    Calls Try.prog 12 #[v] w (GivenIs n₀ zss w) := by
  obtain ⟨a, c, rfl⟩ := hv.value
  have HV := Lib.hid hv
  clear hv
  go_enter Try.func12, Try.ntmps12
  go_wp2
  go_loopw [3, 5, 8] (fun o _ i wr => ∃ k : Nat, k ≤ zss.length ∧ i = .int .i64 k ∧ OwnRows w.heap.size n₀ wr o (zss.take k) ∧ Below w.heap.size w wr) (fun _ _ i _ => zss.length - (intOf i).toNat)
  case atStart => exact ⟨0, Nat.zero_le _, rfl, ⟨[], rfl, World.ownsRow_nil _ _ _ _, fun j x zs hx => by simp at hx⟩, Below.refl _ _⟩
  case round =>
    obtain ⟨k, hk, rfl, ⟨rs, hrl, ho, hr⟩, hB⟩ := hrel
    by_cases hlt : k < zss.length
    · rcases HV.out.form with ⟨_, e0⟩ | ⟨b, off, c', e0, hcap, hg, hcs⟩
      · rw [e0] at hlt; simp at hlt
      cases e0
      obtain ⟨ra, rc, hc, hI⟩ := hcs k hlt
      have hc := (hB.cell (p := ⟨b, off + k, none⟩) (Nat.lt_of_lt_of_le hg h0)).trans hc
      have hI := hI.below (hB.mono h0)
      have hz : zss[k]? = some (zss[k]?.getD []) := by rw [List.getElem?_eq_getElem hlt]; rfl
      have hlk : (zss.take k).length = k := by rw [List.length_take]; omega
      rw [hlk] at ho hrl
      have HO := Lib.hid ho
      have HI := Lib.hid hI
      have HR := Lib.hid hr
      have HZ := Lib.hid hz
      clear hcs ho hI hr hz hlk
      generalize zss[k]?.getD [] = y at *
      go_wp2_with (at_builtin; refine append_one elemV rfl _ _ rfl rfl rfl HO.out rfl ?_ ?_ ?_ ?_ ?_; (simp [Value.oneCell']); (unfold maxLen; omega); omega; (exact hB.size); intro v' w' ho' hg'; have hg2 := Lib.hid hg'; clear hg'; have HO' := Lib.hid ho'; clear ho')
      have hBw := (Below.refl w.heap.size wr).grown hg2.out hB.size (fun k e => (HO.out.lt k e).1)
      refine ⟨⟨k + 1, by omega, by go_num, ⟨rs ++ [(ra, y.length, rc)], by simp [hrl]; omega, ?_, ?_⟩, hB.trans hBw⟩, ?_⟩
      · rw [show (zss.take (k + 1)).length = k + 1 by rw [List.length_take]; omega, List.map_append]
        exact HO'.out
      · intro j x zs hx hzs
        rw [List.take_add_one, HZ.out] at hzs
        by_cases hj : j < k
        · rw [List.getElem?_append_left (by omega)] at hx
          rw [List.getElem?_append_left (by rw [List.length_take]; omega)] at hzs
          exact (HR.out j x zs hx hzs).below (hBw.mono h0)
        · have hjk : j = k := by
            have h1 := (List.getElem?_eq_some_iff.1 hx).1
            simp at h1; omega
          subst hjk
          rw [List.getElem?_append_right (by omega)] at hx
          rw [List.getElem?_append_right (by rw [List.length_take]; omega)] at hzs
          rw [hrl, Nat.sub_self] at hx
          rw [show (zss.take j).length = j by rw [List.length_take]; omega, Nat.sub_self] at hzs
          simp at hx hzs
          subst hx hzs
          exact HI.out.below (hBw.mono h0)
      · show zss.length - ((k : Int) + 1).toNat < zss.length - ((k : Int)).toNat
        omega
    · have hk' : k = zss.length := by omega
      subst hk'
      rw [List.take_length] at ho hrl hr
      have HX : Hid (OwnRows w.heap.size n₀ wr u3 zss) := Lib.hid ⟨rs, hrl, ho, hr⟩
      clear ho hr hrl
      go_wp2
      go_ret
      exact ⟨_, rfl, HX.out, hB⟩
end Go.Proofs.Ytnojcgikgngniaa
