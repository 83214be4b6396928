/- Layer 8: the list of all places; what a name leads to. -/
import Derived.Test.YtdnaildhcnekfaaDoorShpP
namespace Go.Proofs.YtdnaildhcnekfaaDoor
open Go.RowKit
set_option linter.unusedVariables false
theorem findR_append (i : Int) (l2 : List (Int × Int)) : ∀ (l1 : List (Int × Int)) (k : Nat), findR i (l1 ++ l2) k = if 0 ≤ findR i l1 k then findR i l1 k else findR i l2 (k + l1.length)
  | [], k => by
    have e : findR i ([] : List (Int × Int)) k = -1 := rfl
    rw [e, if_neg (by decide)]; rfl
  | r :: l1, k => by
    show findR i (r :: (l1 ++ l2)) k = _
    by_cases h : r.1 ≤ i ∧ i < r.2
    · have e1 : findR i (r :: (l1 ++ l2)) k = k := if_pos h
      have e2 : findR i (r :: l1) k = k := if_pos h
      rw [e1, e2, if_pos (by omega)]
    · have e1 : findR i (r :: (l1 ++ l2)) k = findR i (l1 ++ l2) (k + 1) := if_neg h
      have e2 : findR i (r :: l1) k = findR i l1 (k + 1) := if_neg h
      rw [e1, e2, findR_append i l2 l1 (k + 1), List.length_cons, show k + 1 + l1.length = k + (l1.length + 1) by omega]
theorem findR_none (i : Int) : ∀ (rs : List (Int × Int)) (k : Nat), (∀ r ∈ rs, ¬ (r.1 ≤ i ∧ i < r.2)) → findR i rs k = -1
  | [], k, _ => rfl
  | r :: rs, k, h => by
    have e1 : findR i (r :: rs) k = findR i rs (k + 1) := if_neg (h r (by simp))
    rw [e1]
    exact findR_none i rs (k + 1) (fun x hx => h x (by simp [hx]))
/-- a link's facts -/
theorem link_facts {ss : List Int} (hr : RightH ss) (k : Nat) (hk : k + 1 < ss.length) : ∃ C R : Nat, ss[k]?.getD 0 = C ∧ ss[k + 1]?.getD 0 = R ∧ 1 ≤ C ∧ 1 ≤ R ∧ 0 ≤ stTo ss k ∧ stTo ss (k + 1) = stTo ss k + ((R * C : Nat) : Int) + R := by
  have g0 := goodB_iff.1 (hr.good k (by omega))
  have g1 := goodB_iff.1 (hr.good (k + 1) (by omega))
  have h0 := st_range (k := k) hr.good (.inl (by omega))
  refine ⟨(ss[k]?.getD 0).toNat, (ss[k + 1]?.getD 0).toNat, by omega, by omega, by omega, by omega, h0.1, ?_⟩
  show stTo ss k + (ss[k]?.getD 0 + 1) * ss[k + 1]?.getD 0 = _
  obtain ⟨C, hC⟩ : ∃ C : Nat, ss[k]?.getD 0 = C := ⟨(ss[k]?.getD 0).toNat, by omega⟩
  obtain ⟨R, hR⟩ : ∃ R : Nat, ss[k + 1]?.getD 0 = R := ⟨(ss[k + 1]?.getD 0).toNat, by omega⟩
  rw [hC, hR, Int.toNat_natCast, Int.toNat_natCast, Int.add_mul, Int.one_mul, Int.natCast_mul, Int.mul_comm]
  omega
def linkW (k C R : Nat) : List (Int × Int × Int) := (List.range (R * C)).map fun j => ((k : Int), ((j / C : Nat) : Int), ((j % C : Nat) : Int))
def linkB (k R : Nat) : List (Int × Int × Int) := (List.range R).map fun (r : Nat) => ((k : Int), (r : Int), -1)
/-- all places of the first links -/
def placesL (ss : List Int) : Nat → List (Int × Int × Int)
  | 0 => []
  | k + 1 => placesL ss k ++ (linkW k (ss[k]?.getD 0).toNat (ss[k + 1]?.getD 0).toNat ++ linkB k (ss[k + 1]?.getD 0).toNat)
theorem linkW_length (k C R : Nat) : (linkW k C R).length = R * C := by simp [linkW]
theorem linkB_length (k R : Nat) : (linkB k R).length = R := by simp [linkB]
theorem placesL_length {ss : List Int} (hr : RightH ss) : ∀ k, k < ss.length → ((placesL ss k).length : Int) = stTo ss k
  | 0, _ => rfl
  | k + 1, hk => by
    obtain ⟨C, R, hC, hR, _, _, _, he⟩ := link_facts hr k hk
    have ih := placesL_length hr k (by omega)
    rw [placesL, List.length_append, List.length_append, linkW_length, linkB_length, hC, hR, Int.toNat_natCast, Int.toNat_natCast, he]
    omega
theorem ranges_in {ss : List Int} (hr : RightH ss) : ∀ k, k < ss.length → ∀ r ∈ rangesL ss k, 0 ≤ r.1 ∧ r.2 ≤ stTo ss k
  | 0, _, r, h => by simp [rangesL] at h
  | k + 1, hk, r, h => by
    obtain ⟨C, R, hC, hR, _, _, h0, he⟩ := link_facts hr k hk
    rw [rangesL] at h
    rcases List.mem_append.1 h with h | h
    · have := ranges_in hr k (by omega) r h
      omega
    · simp only [List.mem_cons, List.not_mem_nil, or_false] at h
      rcases h with rfl | rfl
      · unfold wR
        dsimp only
        rw [hR]
        omega
      · unfold bR
        dsimp only
        rw [hR]
        omega
theorem place_spec {ss : List Int} (hr : RightH ss) : ∀ m, m < ss.length → ∀ i : Int, 0 ≤ i → i < stTo ss m →
    ∃ (j : Nat) (r : Int × Int), findR i (rangesL ss m) 0 = j ∧ (rangesL ss m)[j]? = some r ∧ r.1 ≤ i ∧ i < r.2 ∧ j < 2 * m ∧
      (placesL ss m)[i.toNat]? = some (if j % 2 = 1 then (((j / 2 : Nat) : Int), i - r.1, -1) else (((j / 2 : Nat) : Int), (i - r.1) / (ss[j / 2]?.getD 0), (i - r.1) % (ss[j / 2]?.getD 0)))
  | 0, _, i, h0, h1 => by
    have : stTo ss 0 = 0 := rfl
    omega
  | m + 1, hm, i, h0, h1 => by
    obtain ⟨C, R, hC, hR, hC1, hR1, hs0, he⟩ := link_facts hr m hm
    have hlen := placesL_length hr m (by omega)
    have hrl := rangesL_length ss m
    rcases Int.lt_or_le i (stTo ss m) with hi | hi
    · obtain ⟨j, r, e1, e2, e3, e4, e5, e6⟩ := place_spec hr m (by omega) i h0 hi
      refine ⟨j, r, ?_, ?_, e3, e4, by omega, ?_⟩
      · rw [rangesL, findR_append, e1, if_pos (by omega)]
      · rw [rangesL, List.getElem?_append_left (by omega)]; exact e2
      · rw [placesL, List.getElem?_append_left (by omega)]; exact e6
    · have hn : findR i (rangesL ss m) 0 = -1 := findR_none i _ 0 (fun r hr' => by have := ranges_in hr m (by omega) r hr'; omega)
      have hw : wR ss m = (stTo ss m, stTo ss m + ((R * C : Nat) : Int)) := by unfold wR; rw [he, hR]; congr 1; omega
      have hb : bR ss m = (stTo ss m + ((R * C : Nat) : Int), stTo ss m + ((R * C : Nat) : Int) + R) := by unfold bR; rw [he, hR]; congr 1; omega
      have hf : findR i (rangesL ss (m + 1)) 0 = findR i [wR ss m, bR ss m] (2 * m) := by
        rw [rangesL, findR_append, hn, if_neg (by decide), hrl, Nat.zero_add]
      have hp : (placesL ss (m + 1))[i.toNat]? = (linkW m C R ++ linkB m R)[i.toNat - (placesL ss m).length]? := by
        rw [placesL, List.getElem?_append_right (by omega), hC, hR, Int.toNat_natCast, Int.toNat_natCast]
      obtain ⟨x, hx⟩ : ∃ x : Nat, i = stTo ss m + x := ⟨(i - stTo ss m).toNat, by omega⟩
      have hx2 : i.toNat - (placesL ss m).length = x := by omega
      rw [hx2] at hp
      rcases Nat.lt_or_ge x (R * C) with hxc | hxc
      · refine ⟨2 * m, wR ss m, ?_, ?_, ?_, ?_, by omega, ?_⟩
        · rw [hf, hw]
          exact if_pos ⟨hi, by dsimp only; omega⟩
        · rw [rangesL, List.getElem?_append_right (by omega), hrl, Nat.sub_self]; rfl
        · rw [hw]; exact hi
        · rw [hw]; dsimp only; omega
        · rw [hp, List.getElem?_append_left (by rw [linkW_length]; exact hxc), if_neg (by omega), show 2 * m / 2 = m by omega, hC, hw]
          unfold linkW
          rw [List.getElem?_map, List.getElem?_range hxc]
          dsimp only
          rw [show i - stTo ss m = (x : Int) by omega]
          rfl
      · have hxr : x - R * C < R := by omega
        refine ⟨2 * m + 1, bR ss m, ?_, ?_, ?_, ?_, by omega, ?_⟩
        · rw [hf, hw, hb]
          have e1 : findR i [(stTo ss m, stTo ss m + ((R * C : Nat) : Int)), (stTo ss m + ((R * C : Nat) : Int), stTo ss m + ((R * C : Nat) : Int) + R)] (2 * m) = findR i [(stTo ss m + ((R * C : Nat) : Int), stTo ss m + ((R * C : Nat) : Int) + R)] (2 * m + 1) := if_neg (by dsimp only; omega)
          rw [e1]
          exact if_pos (by dsimp only; omega)
        · rw [rangesL, List.getElem?_append_right (by omega), hrl, show 2 * m + 1 - 2 * m = 1 by omega]; rfl
        · rw [hb]; dsimp only; omega
        · rw [hb]; dsimp only; omega
        · rw [hp, List.getElem?_append_right (by rw [linkW_length]; exact hxc), linkW_length, if_pos (by omega), show (2 * m + 1) / 2 = m by omega, hb]
          unfold linkB
          rw [List.getElem?_map, List.getElem?_range hxr]
          dsimp only
          rw [show i - (stTo ss m + ((R * C : Nat) : Int)) = ((x - R * C : Nat) : Int) by omega]
          rfl
/-- the index that a parameter with a letter and some numbers would have -/
def guessV (ss : List Int) (L n0 n1 n2 : Int) : Int :=
  if 0 ≤ n0 ∧ n0 < ((ss.length - 1 : Nat) : Int) then
    if L = 98 then wrap64 ((bR ss n0.toNat).1 + n1) else wrap64 (wrap64 ((wR ss n0.toNat).1 + wrap64 (n1 * (ss[n0.toNat]?.getD 0))) + n2)
  else -1
def guessN (ss : List Int) (s : ByteArray) : Int := guessV ss (splitN s).1 ((splitN s).2 0) ((splitN s).2 1) ((splitN s).2 2)
/-- where a parameter lies, and that its name leads back -/
theorem lead_back {ss : List Int} (hr : RightH ss) (i : Int) (h0 : 0 ≤ i) (h1 : i < stTo ss (ss.length - 1)) :
    ∃ k r c : Int, placeP ss i = (k, r, c, true) ∧ (placesL ss (ss.length - 1))[i.toNat]? = some (k, r, c) ∧ 0 ≤ k ∧ k < 1048576 ∧ 0 ≤ r ∧ r < 1048576 ∧ -1 ≤ c ∧ c < 1048576 ∧ guessN ss ⟨(nameL (k, r, c)).toArray⟩ = i := by
  have h2 := hr.l2
  have h16 := hr.l16
  have hcnt := hr.cnt
  obtain ⟨j, rg, e1, e2, e3, e4, e5, e6⟩ := place_spec hr (ss.length - 1) (by omega) i h0 h1
  obtain ⟨C, R, hC, hR, hC1, hR1, hs0, he⟩ := link_facts hr (j / 2) (by omega)
  have gC := goodB_iff.1 (hr.good (j / 2) (by omega))
  have gR := goodB_iff.1 (hr.good (j / 2 + 1) (by omega))
  rw [hC] at gC
  rw [hR] at gR
  have hpl : placeP ss i = placeW (rangesL ss (ss.length - 1)) ss i (j : Int) := by unfold placeP; rw [e1]
  by_cases ho : j % 2 = 1
  · have hj : j = 2 * (j / 2) + 1 := by omega
    have hrg : rg = bR ss (j / 2) := by
      have := (rangesL_at ss (ss.length - 1) (j / 2) (by omega)).2
      rw [← hj, e2] at this
      exact Option.some.inj this
    have hb : bR ss (j / 2) = (stTo ss (j / 2) + ((R * C : Nat) : Int), stTo ss (j / 2) + ((R * C : Nat) : Int) + R) := by unfold bR; rw [he, hR]; congr 1; omega
    have hlo : 0 ≤ rg.1 := (ranges_in hr (ss.length - 1) (by omega) rg (List.mem_of_getElem? e2)).1
    have hup : rg.2 - rg.1 = R := by rw [hrg, hb]; dsimp only; omega
    rw [if_pos ho] at e6
    refine ⟨((j / 2 : Nat) : Int), i - rg.1, -1, ?_, e6, by omega, by omega, by omega, by omega, by omega, by omega, ?_⟩
    · rw [hpl]
      unfold placeW
      rw [if_neg (by omega), Int.toNat_natCast, if_pos ho, e2]
      rfl
    · have hn : nameL (((j / 2 : Nat) : Int), i - rg.1, -1) = name2 98 (j / 2) (i - rg.1).toNat := by
        unfold nameL; rw [if_pos (show (-1 : Int) < 0 by decide), Int.toNat_natCast]
      unfold guessN
      rw [hn, split_name2 98 (by decide) (j / 2) (i - rg.1).toNat (by omega) (by omega)]
      dsimp only
      have u0 : upd (upd (fun _ => 0) 0 ((j / 2 : Nat) : Int)) 1 ((i - rg.1).toNat : Int) 0 = ((j / 2 : Nat) : Int) := rfl
      have u1 : upd (upd (fun _ => 0) 0 ((j / 2 : Nat) : Int)) 1 ((i - rg.1).toNat : Int) 1 = ((i - rg.1).toNat : Int) := rfl
      rw [u0, u1]
      unfold guessV
      rw [if_pos (by omega), if_pos (by decide), Int.toNat_natCast, ← hrg, Int.toNat_of_nonneg (by omega), IntWalk.wrap64_in _ (by omega)]
      omega
  · have hj : j = 2 * (j / 2) := by omega
    have hrg : rg = wR ss (j / 2) := by
      have := (rangesL_at ss (ss.length - 1) (j / 2) (by omega)).1
      rw [← hj, e2] at this
      exact Option.some.inj this
    have hw : wR ss (j / 2) = (stTo ss (j / 2), stTo ss (j / 2) + ((R * C : Nat) : Int)) := by unfold wR; rw [he, hR]; congr 1; omega
    have hup : i - rg.1 < ((R * C : Nat) : Int) := by rw [hrg, hw] at e4 ⊢; dsimp only at e4 ⊢; omega
    have hlo : 0 ≤ rg.1 := (ranges_in hr (ss.length - 1) (by omega) rg (List.mem_of_getElem? e2)).1
    rw [if_neg ho, hC] at e6
    obtain ⟨x, hx⟩ : ∃ x : Nat, i - rg.1 = x := ⟨(i - rg.1).toNat, by omega⟩
    rw [hx] at e6 hup
    have q1 : (x : Int) / (C : Int) = ((x / C : Nat) : Int) := rfl
    have q2 : (x : Int) % (C : Int) = ((x % C : Nat) : Int) := rfl
    rw [q1, q2] at e6
    have hmod := Nat.mod_lt x (show 0 < C by omega)
    have hdiv : x / C ≤ x := Nat.div_le_self _ _
    have hxb : x < 1048576 := by omega
    have hmm : x / C * C ≤ x := Nat.div_mul_le_self _ _
    have hdm2 : x / C * C + x % C = x := by rw [Nat.mul_comm]; exact Nat.div_add_mod x C
    have hpp : placeP ss i = (((j / 2 : Nat) : Int), ((x / C : Nat) : Int), ((x % C : Nat) : Int), true) := by
      rw [hpl]
      unfold placeW
      rw [if_neg (by omega), Int.toNat_natCast, if_neg ho, e2, hC]
      show (((j / 2 : Nat) : Int), (i - rg.1) / (C : Int), (i - rg.1) % (C : Int), true) = _
      rw [hx, q1, q2]
    clear q1 q2
    generalize x / C = d at *
    generalize x % C = z at *
    have hm1 : (d : Int) * (C : Int) = ((d * C : Nat) : Int) := by rw [Int.natCast_mul]
    generalize d * C = y at *
    refine ⟨((j / 2 : Nat) : Int), (d : Int), (z : Int), hpp, e6, by omega, by omega, by omega, by omega, by omega, by omega, ?_⟩
    have hn : nameL (((j / 2 : Nat) : Int), (d : Int), (z : Int)) = name3 119 (j / 2) d z := by
      unfold nameL; rw [if_neg (show ¬ (z : Int) < 0 by omega), Int.toNat_natCast, Int.toNat_natCast, Int.toNat_natCast]
    unfold guessN
    rw [hn, split_name3 119 (by decide) (j / 2) d z (by omega) (by omega) (by omega)]
    dsimp only
    have u0 : upd (upd (upd (fun _ => 0) 0 ((j / 2 : Nat) : Int)) 1 (d : Int)) 2 (z : Int) 0 = ((j / 2 : Nat) : Int) := rfl
    have u1 : upd (upd (upd (fun _ => 0) 0 ((j / 2 : Nat) : Int)) 1 (d : Int)) 2 (z : Int) 1 = (d : Int) := rfl
    have u2 : upd (upd (upd (fun _ => 0) 0 ((j / 2 : Nat) : Int)) 1 (d : Int)) 2 (z : Int) 2 = (z : Int) := rfl
    rw [u0, u1, u2]
    unfold guessV
    rw [if_pos (by omega), if_neg (by decide), Int.toNat_natCast, ← hrg, hC, hm1]
    rw [IntWalk.wrap64_in (y : Int) (by omega), IntWalk.wrap64_in (rg.1 + (y : Int)) (by omega), IntWalk.wrap64_in _ (by omega)]
    omega
theorem place_out {ss : List Int} (hr : RightH ss) (i : Int) (h : i < 0 ∨ stTo ss (ss.length - 1) ≤ i) : placeP ss i = (0, 0, 0, false) := by
  have h2 := hr.l2
  have hn : findR i (rangesL ss (ss.length - 1)) 0 = -1 := findR_none i _ 0 (fun r hr' => by have := ranges_in hr (ss.length - 1) (by omega) r hr'; omega)
  unfold placeP
  rw [hn]
  exact if_pos (by decide)
end Go.Proofs.YtdnaildhcnekfaaDoor
