/- Layer 8: the reference's Index. -/
import Derived.Test.YtdnaildhcnekfaaDoorShpT
namespace Go.Proofs.YtdnaildhcnekfaaDoor
open Go.RowKit
set_option linter.unusedVariables false
theorem nameAt_in {ss : List Int} (hr : RightH ss) (i : Int) (h0 : 0 ≤ i) (h1 : i < stTo ss (ss.length - 1)) :
    ∃ k r c : Int, (placesL ss (ss.length - 1))[i.toNat]? = some (k, r, c) ∧ placeP ss i = (k, r, c, true) ∧ nameAt ss i = ⟨(nameL (k, r, c)).toArray⟩ ∧ guessN ss (nameAt ss i) = i ∧ (0 ≤ k ∧ k < 1048576) ∧ (0 ≤ r ∧ r < 1048576) ∧ (-1 ≤ c ∧ c < 1048576) := by
  obtain ⟨k, r, c, hp, hl, a1, a2, a3, a4, a5, a6, hg⟩ := lead_back hr i h0 h1
  have e : nameAt ss i = ⟨(nameL (k, r, c)).toArray⟩ := by unfold nameAt; rw [hp, nameP_eq]
  exact ⟨k, r, c, hl, hp, e, by rw [e]; exact hg, ⟨a1, a2⟩, ⟨a3, a4⟩, ⟨a5, a6⟩⟩
theorem nameAt_out {ss : List Int} (hr : RightH ss) (i : Int) (h : i < 0 ∨ stTo ss (ss.length - 1) ≤ i) : nameAt ss i = ⟨#[]⟩ := by
  unfold nameAt
  rw [place_out hr i h, nameP_none]
theorem bytes_list {l : List UInt8} {s : ByteArray} (h : l = s.toList) : (⟨l.toArray⟩ : ByteArray) = s := by
  rw [ByteArray.toList_eq] at h
  subst h
  rfl
theorem list_bytes (l : List UInt8) : (⟨l.toArray⟩ : ByteArray).toList = l := by rw [ByteArray.toList_eq]
theorem idx_found {ss : List Int} (hr : RightH ss) (s : ByteArray) (j : Nat) (p : Int × Int × Int) (hj : (placesL ss (ss.length - 1))[j]? = some p) (h : nameL p = s.toList) : idxV ss s = ((j : Int), true) := by
  have h2 := hr.l2
  have hlen := placesL_length hr (ss.length - 1) (by omega)
  have hlt : j < (placesL ss (ss.length - 1)).length := by
    apply Nat.lt_of_not_le; intro hge
    rw [List.getElem?_eq_none hge] at hj; cases hj
  obtain ⟨k, r, c, hl, hp, he, hg, _⟩ := nameAt_in hr (j : Int) (by omega) (by omega)
  rw [Int.toNat_natCast, hj] at hl
  obtain rfl : p = (k, r, c) := Option.some.inj hl
  have hs : nameAt ss j = s := he.trans (bytes_list h)
  rw [hs] at hg
  unfold idxV
  rw [hg, if_pos ⟨fun e => nameL_ne _ (h.trans e), by rw [hs]⟩]
theorem idx_none {ss : List Int} (hr : RightH ss) (s : ByteArray) (h : ∀ (j : Nat) p, (placesL ss (ss.length - 1))[j]? = some p → ¬ nameL p = s.toList) : idxV ss s = (0, false) := by
  unfold idxV
  refine if_neg (fun x => ?_)
  rcases (show (0 ≤ guessN ss s ∧ guessN ss s < stTo ss (ss.length - 1)) ∨ (guessN ss s < 0 ∨ stTo ss (ss.length - 1) ≤ guessN ss s) by omega) with hin | hout
  · obtain ⟨k, r, c, hl, hp, he, _⟩ := nameAt_in hr (guessN ss s) hin.1 hin.2
    exact h _ _ hl (by have := x.2; rw [he, list_bytes] at this; exact this)
  · have := x.2
    rw [nameAt_out hr _ hout] at this
    exact x.1 (by rw [← this]; exact list_bytes [])
set_option maxRecDepth 4000 in
set_option maxHeartbeats 2000000 in
theorem refIndex_any (v : Value) (ss : List Int) (hr : RightH ss) (s : ByteArray) (w : World) (hv : IntsAt .i64 w.heap.size w v ss) :
    Calls Tryd.prog 27 #[v, .string s] w fun e w' => e = .returned (.tuple #[.int .i64 (idxV ss s).1, .bool (idxV ss s).2]) ∧ Below w.heap.size w w' := by
  have HP := Lib.hid (refPlaces_any v ss hr w hv)
  have h2 := hr.l2
  have hlen := placesL_length hr (ss.length - 1) (by omega)
  have hcnt := hr.cnt
  have HF := Lib.hid (fun j p => idx_found hr s j p)
  have HNO := Lib.hid (idx_none hr s)
  have HLB := Lib.hid (fun (j : Nat) (hj : j < (placesL ss (ss.length - 1)).length) => nameAt_in hr (j : Int) (by omega) (by omega))
  generalize placesL ss (ss.length - 1) = l at *
  have hl2 : l.length ≤ 1048576 := by omega
  clear hv hlen
  go_enter Tryd.func27, Tryd.ntmps27
  go_wp2_with fail
  refine HP.out.mono ?_
  rintro e w1 ⟨x, rfl, ox, b1⟩
  have OX := Lib.hid ox
  have B1 := Lib.hid b1
  obtain ⟨xa, xc, rfl⟩ := own_value ox
  clear HP ox b1
  go_wp2_with fail
  go_loopw [7] (fun i wr => ∃ j : Nat, j ≤ l.length ∧ i = .int .i64 j ∧ Hid (∀ (j' : Nat) p, j' < j → l[j']? = some p → ¬ nameL p = s.toList) ∧ Below w1.heap.size w1 wr) (fun i _ => l.length - (intOf i).toNat)
  case atStart => exact ⟨0, Nat.zero_le _, rfl, Lib.hid (fun j' p h => by omega), Below.refl _ _⟩
  case round =>
    obtain ⟨j, hj, rfl, HNE, hB⟩ := hrel
    by_cases hlt : j < l.length
    · have hdec : decide ((j : Int) < (l.length : Int)) = true := by simp; omega
      have wj : IntKind.i64.wrap ((j : Int) + 1) = ((j + 1 : Nat) : Int) := (IntWalk.i64_in _ (by omega)).trans (by omega)
      obtain ⟨k, r, c, hl, _, _, _, ak, ar, ac⟩ := HLB.out j hlt
      rw [Int.toNat_natCast] at hl
      obtain ⟨q0, q1, q2⟩ := pcells_at l j _ hl
      rw [Nat.mul_comm] at q0 q1 q2
      obtain ⟨g, cc, e0, hg1, hg2⟩ := own_some OX.out (by omega)
      cases e0
      have d0 := cell_step hB ((OX.out.cellAt (j * 3) (by omega)).trans q0)
      have d1 := cell_step hB ((OX.out.cellAt (j * 3 + 1) (by omega)).trans q1)
      have d2 := cell_step hB ((OX.out.cellAt (j * 3 + 2) (by omega)).trans q2)
      dsimp only at d0 d1 d2
      have HFJ := Lib.hid (HF.out j _ hl)
      have HJL := Lib.hid hl
      have HN := Lib.hid (refName_any k r c ak ar ac wr)
      have HB := Lib.hid hB
      have i0 : (0 : Int) ≤ (j : Int) := by omega
      have i1 : (j : Int) < (l.length : Int) := by omega
      clear q0 q1 q2 hl HLB
      obtain ⟨nl, hnl⟩ : ∃ nl, nl = nameL (k, r, c) := ⟨_, rfl⟩
      rw [← hnl] at HN HFJ
      have HNL := Lib.hid hnl
      clear hnl ak ar ac hB
      go_wp2_with fail
      refine HN.out.mono ?_
      rintro e w2 ⟨rfl, b2⟩
      have B2 := Lib.hid (HB.out.trans (b2.mono HB.out.size))
      clear b2 HN HB d0 d1 d2
      by_cases hq : nl = s.toList
      · have hqb : (nl == s.toList) = true := by simpa using hq
        have hE := HFJ.out hq
        have BB := Lib.hid (B1.out.trans (B2.out.mono B1.out.size))
        clear hq
        go_wp2_with fail
        refine bodyPost_ret (v := .tuple #[.int .i64 j, .bool true]) ?_ rfl ⟨by rw [hE], BB.out⟩
        simp [results, Tryd.results27, go_sem]
      · have hqb : (nl == s.toList) = false := by simpa using hq
        go_wp2_with fail
        refine ⟨⟨j + 1, by omega, rfl, Lib.hid (fun j' p h hp => ?_), B2.out⟩, ?_⟩
        · rcases Nat.lt_or_ge j' j with h1 | h1
          · exact HNE.out j' p h1 hp
          · obtain rfl : j' = j := by omega
            rw [HJL.out] at hp
            obtain rfl : (k, r, c) = p := Option.some.inj hp
            rw [← HNL.out]
            exact hq
        · simp [intOf]; omega
    · obtain rfl : j = l.length := by omega
      have hdec : decide ((l.length : Int) < (l.length : Int)) = false := by simp
      have hE := HNO.out (fun j p hp => HNE.out j p (by
        apply Nat.lt_of_not_le; intro hge
        rw [List.getElem?_eq_none hge] at hp; cases hp) hp)
      have BB := Lib.hid (B1.out.trans (hB.mono B1.out.size))
      clear hB HLB HF HNO HNE
      go_wp2_with fail
      refine bodyPost_ret (v := .tuple #[.int .i64 0, .bool false]) ?_ rfl ⟨by rw [hE], BB.out⟩
      simp [results, Tryd.results27, go_sem]
end Go.Proofs.YtdnaildhcnekfaaDoor
