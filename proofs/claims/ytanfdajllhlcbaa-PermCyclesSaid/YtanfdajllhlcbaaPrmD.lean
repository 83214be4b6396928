/- Layer 6: Compose, and the reference's. -/
import Derived.Test.YtanfdajllhlcbaaPrmA
import Derived.Test.YtanfdajllhlcbaaPrmC
namespace Go.Proofs.Ytanfdajllhlcbaa
open Go.RowKit
set_option linter.unusedVariables false
def mkP (f : Nat → Int) (n k : Nat) : List Int := (List.range n).map fun (i : Nat) => if i < k then f i else 0
theorem mkP_length (f : Nat → Int) (n k : Nat) : (mkP f n k).length = n := by simp [mkP]
theorem mkP_zero (f : Nat → Int) (n : Nat) : (mkP f n 0).map (Value.int .i64) = List.replicate (n * 1) (.int .i64 0) := by
  unfold mkP
  apply List.ext_getElem
  · simp
  · intro i h1 h2
    simp
theorem mkP_all (f : Nat → Int) (n : Nat) : mkP f n n = (List.range n).map f := by
  unfold mkP
  apply List.map_congr_left
  intro i hi
  rw [if_pos (List.mem_range.1 hi)]
theorem mkP_set (f : Nat → Int) (n k : Nat) (h : k < n) (x : Int) (hx : x = f k) : ((mkP f n k).map (Value.int .i64)).set k (.int .i64 x) = (mkP f n (k + 1)).map (Value.int .i64) := by
  subst hx
  unfold mkP
  apply List.ext_getElem
  · simp
  · intro i h1 h2
    rw [List.getElem_set]
    simp only [List.getElem_map, List.getElem_range]
    by_cases e : k = i
    · subst e; simp
    · rw [if_neg e]
      by_cases h3 : i < k
      · rw [if_pos h3, if_pos (by omega)]
      · rw [if_neg h3, if_neg (by omega)]
theorem range_snoc (f : Nat → Int) (k : Nat) : ((List.range (k + 1)).map f).map (Value.int .i64) = ((List.range k).map f).map (Value.int .i64) ++ [.int .i64 (f k)] := by
  rw [List.range_succ, List.map_append, List.map_append]; rfl
def compF (p q : List Int) (i : Nat) : Int := p[(q[i]?.getD 0).toNat]?.getD 0
def compL (p q : List Int) : List Int := (List.range q.length).map (compF p q)
theorem compL_length (p q : List Int) : (compL p q).length = q.length := by simp [compL]
def okC (p q : List Int) : Bool := decide (p.length = q.length) && (validB p && validB q)
def InW (p : List Int) : Prop := ∀ z ∈ p, -9223372036854775808 ≤ z ∧ z ≤ 9223372036854775807
/-- a list, or nothing -/
def ListOr (ok : Bool) (l : List Int) (w : World) (e : Ending) (w' : World) : Prop :=
  if ok then ∃ v, e = .returned (.tuple #[v, .bool true]) ∧ w'.ownsRow w.heap.size 3 1 v l.length (l.map (Value.int .i64)) ∧ Below w.heap.size w w'
  else e = .returned (.tuple #[.slice none 0 0, .bool false]) ∧ Below w.heap.size w w'
theorem valid_at {p : List Int} (h : validB p = true) {k : Nat} (hk : k < p.length) : ∃ x : Nat, p[k]?.getD 0 = (x : Int) ∧ x < p.length := by
  have := ((valid_iff p).1 h).1 k hk
  rw [List.getElem?_eq_getElem hk, Option.getD_some]
  exact ⟨p[k].toNat, by omega, by omega⟩
set_option maxHeartbeats 2000000 in
theorem compose_any (v u : Value) (p q : List Int) (hp : p.length ≤ 1048576) (hq : q.length ≤ 1048576) (zp : InW p) (zq : InW q) (w : World) (hv : IntsAt .i64 w.heap.size w v p) (hu : IntsAt .i64 w.heap.size w u q) :
    Calls Try.prog 24 #[v, u] w (ListOr (okC p q) (compL p q) w) := by
  obtain ⟨a, c, rfl⟩ := ints_value hv
  obtain ⟨a', c', rfl⟩ := ints_value hu
  have HP := Lib.hid (fun W h => valid_any (.slice a p.length c) p hp zp W h)
  have HQ := Lib.hid (fun W h => valid_any (.slice a' q.length c') q hq zq W h)
  have HV := Lib.hid hv
  have HU := Lib.hid hu
  have ZP := Lib.hid zp
  have ZQ := Lib.hid zq
  clear hv hu zp zq
  by_cases hl : p.length = q.length
  · have g0 : ((p.length : Int) != (q.length : Int)) = false := by simp [hl]
    have HL := Lib.hid hl
    cases h1 : validB p
    · have hO : okC p q = false := by unfold okC; rw [h1]; simp
      rw [h1] at HP
      clear h1 hl
      go_enter Try.func24, Try.ntmps24
      go_wp2_with fail
      refine (HP.out _ HV.out).mono ?_
      rintro e w1 ⟨rfl, b1⟩
      have B1 := Lib.hid b1
      clear b1
      go_wp2_with fail
      go_ret2
      unfold ListOr
      rw [hO]
      exact ⟨rfl, B1.out⟩
    · cases h2 : validB q
      · have hO : okC p q = false := by unfold okC; rw [h2]; simp
        rw [h1] at HP
        rw [h2] at HQ
        clear h1 h2 hl
        go_enter Try.func24, Try.ntmps24
        go_wp2_with fail
        refine (HP.out _ HV.out).mono ?_
        rintro e w1 ⟨rfl, b1⟩
        have B1 := Lib.hid b1
        have HU1 := Lib.hid (HU.out.later b1)
        clear b1
        go_wp2_with fail
        refine (HQ.out _ HU1.out).mono ?_
        rintro e w2 ⟨rfl, b2⟩
        have B2 := Lib.hid (below_step B1.out b2)
        clear b2
        go_wp2_with fail
        go_ret2
        unfold ListOr
        rw [hO]
        exact ⟨rfl, B2.out⟩
      · have HO := Lib.hid (show okC p q = true by unfold okC; rw [h1, h2]; simp [hl])
        rw [h1] at HP
        rw [h2] at HQ
        have HV2 := Lib.hid (fun k hk => valid_at h2 (k := k) hk)
        clear h1 h2 hl
        have hmk := run_make_elem elemI .i64 .i64 q.length (by omega) (by omega)
        go_enter Try.func24, Try.ntmps24
        go_wp2_with fail
        refine (HP.out _ HV.out).mono ?_
        rintro e w1 ⟨rfl, b1⟩
        have B1 := Lib.hid b1
        have HU1 := Lib.hid (HU.out.later b1)
        clear b1
        go_wp2_with fail
        refine (HQ.out _ HU1.out).mono ?_
        rintro e w2 ⟨rfl, b2⟩
        have B2 := Lib.hid (below_step B1.out b2)
        clear b2 HP HQ HU1
        have hs2 : w.heap.size ≤ w2.heap.size := B2.out.size
        have ho := owns_made (w := w2) (base := w.heap.size) (e := 3) (size := 1) (n := q.length) (u := .int .i64 0) (z := #[.int .i64 0]) rfl (by decide) hs2 (by unfold maxLen; omega)
        rw [← mkP_zero (compF p q), Nat.mul_one] at ho
        have HR := Lib.hid ho
        have AL := Lib.hid (below_alloc (o := .cells (madeCells #[.int .i64 0] q.length) 3) B2.out)
        have hMl : w2.heap.size < (w2.alloc (.cells (madeCells #[.int .i64 0] q.length) 3)).heap.size := by simp
        clear ho
        go_wp2_with fail
        clear hmk
        generalize w2.heap.size = M at *
        generalize w2.alloc (.cells (madeCells #[.int .i64 0] q.length) 3) = w3 at *
        go_loopw [7, 8, 29] (fun _ _ i wr => ∃ k : Nat, k ≤ q.length ∧ i = .int .i64 k ∧ Hid (wr.ownsRow w.heap.size 3 1 (.slice (some ⟨M, 0, none⟩) q.length q.length) q.length ((mkP (compF p q) q.length k).map (Value.int .i64))) ∧ Hid (Below w.heap.size w wr)) (fun _ _ i _ => q.length - (intOf i).toNat)
        case atStart => exact ⟨0, Nat.zero_le _, rfl, HR, AL⟩
        case round =>
          obtain ⟨k, hk, rfl, HR, HB⟩ := hrel
          by_cases hlt : k < q.length
          · obtain ⟨x, hx, hxl⟩ := HV2.out k hlt
            rcases HU.out.form with ⟨_, e0⟩ | ⟨b, off, cap, e0, hc, hb, hcs⟩
            · rw [e0] at hlt; cases hlt
            cases e0
            have hxp : x < p.length := by rw [HL.out]; exact hxl
            rcases HV.out.form with ⟨_, e0⟩ | ⟨b', off', cap', e0, hc', hb', hcs'⟩
            · rw [e0] at hxp; cases hxp
            cases e0
            have cq := (HB.out.cell (p := ⟨b, off + k, none⟩) hb).trans (hcs k hlt)
            have cp := (HB.out.cell (p := ⟨b', off' + x, none⟩) hb').trans (hcs' x hxp)
            rw [hx] at cq
            have hcf : p[x]?.getD 0 = compF p q k := by unfold compF; rw [hx]; rfl
            have hr := HR.out.cellAt k (by omega)
            have hf := HR.out.frozenAt k
            rw [List.getElem?_map, List.getElem?_eq_getElem (by rw [mkP_length]; exact hlt), Option.map_some] at hr
            have st := HR.out.stored k (.int .i64 (p[x]?.getD 0))
            rw [mkP_set _ _ _ hlt _ hcf] at st
            have HR2 := Lib.hid st.1
            have HB2 := Lib.hid (HB.out.grown st.2 HB.out.size (fun j e => by cases e; exact hs2))
            have hbl := World.block_lt_of_cell? _ _ cq
            have hbl' := World.block_lt_of_cell? _ _ cp
            have hrl := World.block_lt_of_cell? _ _ hr
            clear st hcf hcs hcs' hx
            generalize (mkP (compF p q) q.length k)[k]'(by rw [mkP_length]; exact hlt) = y0 at *
            generalize p[x]?.getD 0 = y at *
            go_wp2_with fail
            go_roundw
            case rel => exact ⟨k + 1, by omega, by go_num, HR2, HB2⟩
            case measure => simp [intOf]; omega
          · have hk' : k = q.length := by omega
            subst hk'
            have HX := Lib.hid (mkP_all (compF p q) q.length ▸ HR.out)
            go_wp2_with fail
            go_ret2
            unfold ListOr
            rw [HO.out]
            exact ⟨_, rfl, by rw [compL_length]; exact HX.out, HB.out⟩
  · have g0 : ((p.length : Int) != (q.length : Int)) = true := by simp; omega
    have hO : okC p q = false := by unfold okC; rw [show decide (p.length = q.length) = false by simpa using hl]; rfl
    clear hl
    go_enter Try.func24, Try.ntmps24
    go_wp2_with fail
    go_ret2
    unfold ListOr
    rw [hO]
    exact ⟨rfl, Below.refl _ _⟩
set_option maxHeartbeats 2000000 in
theorem refCompose_any (v u : Value) (p q : List Int) (hp : p.length ≤ 1048576) (hq : q.length ≤ 1048576) (zp : InW p) (zq : InW q) (w : World) (hv : IntsAt .i64 w.heap.size w v p) (hu : IntsAt .i64 w.heap.size w u q) :
    Calls Try.prog 25 #[v, u] w (ListOr (okC p q) (compL p q) w) := by
  obtain ⟨a, c, rfl⟩ := ints_value hv
  obtain ⟨a', c', rfl⟩ := ints_value hu
  have HP := Lib.hid (fun W h => refValid_any (.slice a p.length c) p hp W h)
  have HQ := Lib.hid (fun W h => refValid_any (.slice a' q.length c') q hq W h)
  have HV := Lib.hid hv
  have HU := Lib.hid hu
  clear hv hu zp zq
  cases h1 : validB p
  · have hO : okC p q = false := by unfold okC; rw [h1]; simp
    rw [h1] at HP
    clear h1
    go_enter Try.func25, Try.ntmps25
    go_wp2_with fail
    refine (HP.out _ HV.out).mono ?_
    rintro e w1 ⟨rfl, rfl⟩
    go_wp2_with fail
    go_ret2
    unfold ListOr
    rw [hO]
    exact ⟨rfl, Below.refl _ _⟩
  · cases h2 : validB q
    · have hO : okC p q = false := by unfold okC; rw [h2]; simp
      rw [h1] at HP
      rw [h2] at HQ
      clear h1 h2
      go_enter Try.func25, Try.ntmps25
      go_wp2_with fail
      refine (HP.out _ HV.out).mono ?_
      rintro e w1 ⟨rfl, rfl⟩
      go_wp2_with fail
      refine (HQ.out _ HU.out).mono ?_
      rintro e w1 ⟨rfl, rfl⟩
      go_wp2_with fail
      go_ret2
      unfold ListOr
      rw [hO]
      exact ⟨rfl, Below.refl _ _⟩
    · by_cases hl : p.length = q.length
      · have g0 : ((p.length : Int) != (q.length : Int)) = false := by simp [hl]
        have HL := Lib.hid hl
        have HO := Lib.hid (show okC p q = true by unfold okC; rw [h1, h2]; simp [hl])
        have HV2 := Lib.hid (fun k hk => valid_at h2 (k := k) hk)
        rw [h1] at HP
        rw [h2] at HQ
        clear h1 h2 hl
        go_enter Try.func25, Try.ntmps25
        go_wp2_with fail
        refine (HP.out _ HV.out).mono ?_
        rintro e w1 ⟨rfl, rfl⟩
        go_wp2_with fail
        refine (HQ.out _ HU.out).mono ?_
        rintro e w1 ⟨rfl, rfl⟩
        clear HP HQ
        have HN := Lib.hid (World.ownsRow_nil w w.heap.size 3 1)
        have B0 := Lib.hid (Below.refl w.heap.size w)
        go_wp2_with fail
        go_loopw [6, 7] (fun l i wr => ∃ k : Nat, k ≤ p.length ∧ i = .int .i64 k ∧ Hid (wr.ownsRow w.heap.size 3 1 l k (((List.range k).map (compF p q)).map (Value.int .i64))) ∧ Hid (Below w.heap.size w wr)) (fun _ i _ => p.length - (intOf i).toNat)
        case atStart => exact ⟨0, Nat.zero_le _, rfl, HN, B0⟩
        case round =>
          obtain ⟨k, hk, rfl, HR, HB⟩ := hrel
          by_cases hlt : k < p.length
          · have hlq : k < q.length := by have := HL.out; omega
            obtain ⟨x, hx, hxl⟩ := HV2.out k hlq
            rcases HU.out.form with ⟨_, e0⟩ | ⟨b, off, cap, e0, hc, hb, hcs⟩
            · rw [e0] at hlq; cases hlq
            cases e0
            have hxp : x < p.length := by rw [HL.out]; exact hxl
            rcases HV.out.form with ⟨_, e0⟩ | ⟨b', off', cap', e0, hc', hb', hcs'⟩
            · rw [e0] at hxp; cases hxp
            cases e0
            have cq := (HB.out.cell (p := ⟨b, off + k, none⟩) hb).trans (hcs k hlq)
            have cp := (HB.out.cell (p := ⟨b', off' + x, none⟩) hb').trans (hcs' x hxp)
            rw [hx] at cq
            have hcf : p[x]?.getD 0 = compF p q k := by unfold compF; rw [hx]; rfl
            have hbl := World.block_lt_of_cell? _ _ cq
            have hbl' := World.block_lt_of_cell? _ _ cp
            have HE := Lib.hid (range_snoc (compF p q) k)
            rw [← hcf] at HE
            clear hcf hcs hcs' hx
            generalize p[x]?.getD 0 = y at *
            go_wp2_with (at_builtin; refine append_one elemI rfl _ _ rfl rfl rfl HR.out rfl ?_ ?_ ?_ ?_ ?_; (simp [Value.oneCell']); (unfold maxLen; omega); omega; (exact HB.out.size); intro v' w' ho' hg'; have HB2 := Lib.hid (below_appended HB.out HR.out (show wr.grownBy w' _ from hg') (Nat.le_refl _) HB.out.size); clear hg'; have HR2 := Lib.hid ho'; clear ho')
            go_roundw
            case rel => exact ⟨k + 1, by omega, by go_num, Lib.hid (by rw [HE.out]; exact HR2.out), HB2⟩
            case measure => simp [intOf]; omega
          · have hk' : k = p.length := by omega
            subst hk'
            go_wp2_with fail
            go_ret2
            unfold ListOr
            rw [HO.out]
            refine ⟨_, rfl, ?_, HB.out⟩
            rw [compL_length]
            unfold compL
            rw [← HL.out]
            exact HR.out
      · have g0 : ((p.length : Int) != (q.length : Int)) = true := by simp; omega
        have hO : okC p q = false := by unfold okC; rw [show decide (p.length = q.length) = false by simpa using hl]; rfl
        rw [h1] at HP
        rw [h2] at HQ
        clear hl h1 h2
        go_enter Try.func25, Try.ntmps25
        go_wp2_with fail
        refine (HP.out _ HV.out).mono ?_
        rintro e w1 ⟨rfl, rfl⟩
        go_wp2_with fail
        refine (HQ.out _ HU.out).mono ?_
        rintro e w1 ⟨rfl, rfl⟩
        go_wp2_with fail
        go_ret2
        unfold ListOr
        rw [hO]
        exact ⟨rfl, Below.refl _ _⟩
end Go.Proofs.Ytanfdajllhlcbaa
