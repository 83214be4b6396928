/- Copies of the reference; adding in place. -/
import Derived.Test.YtinflmjombcolaaVecF
import Derived.Laws.AppendOwnNone
namespace Go.Proofs.Ytinflmjombcolaa
open Go.RowKit
set_option linter.unusedVariables false
theorem refClone_any (v : Value) (zs : List Int) (hm : zs.length * 8 ≤ 140737488351232) (n₀ : Nat) (w : World) (hL : IntsW .i64 n₀ w v zs) :
    Calls Try.prog 29 #[v] w (ClonedTo 2 1 zs.length (zs.map (Value.int .i64)) w) := by
  obtain ⟨i0, hi, hz0, hz1, hz2⟩ := info64
  have HO := Lib.hid (World.ownsRow_made (base := w.heap.size) (e := 2) (size := 1) w #[] 0 (Nat.le_refl _) (Nat.zero_le _) (by simp))
  rcases hL.src with ⟨rfl, rfl⟩ | ⟨ad, c, rfl, hc⟩
  · clear hL
    go_enter Try.func29, Try.ntmps29
    go_wp2_with (at_builtin; refine wpList_append_own_none rfl _ _ 22 rfl w.heap.size 2 i0 1 Try.underlying22 hi _ _ _ rfl HO.out rfl ?_)
    go_ret
    refine ⟨_, rfl, HO.out, ?_⟩
    exact (Below.refl w.heap.size w).alloc (Nat.le_refl _) _
  · clear hL
    have HC := Lib.hid hc
    clear hc
    go_enter Try.func29, Try.ntmps29
    go_wp2_with (at_builtin; refine wpList_append_own _ rfl _ _ 22 rfl w.heap.size 2 i0 (.int .i64 0) 1 8 Try.underlying22 hi hz0 hz1 hz2 rfl (by decide) _ _ _ rfl HO.out ad zs.length c (zs.map (Value.int .i64)) rfl ?c0 ?c1 ?c2 ?c3 ?c4 ?c5 ?_; (case c0 => simp); (case c1 => intro j u hj; exact Go.Lib.cell?_alloc_some _ (HC.out j u hj)); (case c2 => intro u hu; simp only [List.mem_map] at hu; obtain ⟨z, _, rfl⟩ := hu; rfl); (case c3 => unfold maxLen; omega); (case c4 => omega); (case c5 => simp); intro v' w1 hown1 hgrow1 _; have hg1 := Lib.hid hgrow1; have ho1 := Lib.hid hown1; clear hgrow1 hown1)
    go_ret
    refine ⟨_, rfl, by simpa using ho1.out, ?_⟩
    exact ((Below.refl w.heap.size w).alloc (Nat.le_refl _) _).grown hg1.out (by simp) (fun k e => (HO.out.lt k e).1)
theorem sumw_two (x y : Int) : sumw [x, y] = wrap64 (x + y) := by unfold sumw isum isum isum; rw [Int.add_zero]
theorem List.set_map_eq (zs : List Int) (k : Nat) (x : Int) (q : IntKind) : (zs.map (Value.int q)).set k (.int q x) = (zs.set k x).map (Value.int q) := (List.map_set).symm
def AddedTo (base : Nat) (v : Value) (zs ys : List Int) (w : World) (e : Ending) (w' : World) : Prop :=
  if zs.length = ys.length then e = .returned (.bool true) ∧ w'.ownsRow base 2 1 v zs.length ((addL zs ys).map (Value.int .i64)) ∧ w.grownBy w' v.ownBlock
  else e = .returned (.bool false) ∧ Below w.heap.size w w'
set_option maxHeartbeats 1000000 in
theorem add_any (v u : Value) (zs ys : List Int) (hm : zs.length * 8 ≤ 140737488351232) (hm2 : ys.length * 8 ≤ 140737488351232) (base n₀ : Nat) (w : World) (hb : base ≤ w.heap.size) (ho : w.ownsRow base 2 1 v zs.length (zs.map (Value.int .i64))) (h0 : n₀ ≤ w.heap.size) (hu : IntsW .i64 n₀ w u ys) :
    Calls Try.prog 36 #[v, u] w (AddedTo base v zs ys w) := by
  obtain ⟨av, cv, rfl⟩ := own_value ho
  obtain ⟨au, cu, rfl⟩ := hu.value
  by_cases hl : zs.length = ys.length
  · have HC := Lib.hid (vclone_w (.slice au ys.length cu) ys hm2 n₀ w h0 hu)
    have HO := Lib.hid ho
    have g1 : ((zs.length : Int) != (ys.length : Int)) = false := by simp [hl]
    have HL := Lib.hid hl
    have hl1 : zs.length ≤ ys.length := by omega
    have hl2 : ys.length ≤ zs.length := by omega
    clear hu ho hl
    go_enter Try.func36, Try.ntmps36
    go_wp2_with fail
    refine HC.out.mono ?_
    rintro e w1 ⟨c, rfl, oc, b1⟩
    have O1 := own_below HO.out b1
    obtain ⟨ac, cc, rfl⟩ := own_value oc
    have g0 := grown_below b1 (Value.slice av zs.length cv).ownBlock
    have HS := Lib.hid (And.intro O1 (And.intro oc g0))
    have hz1 := b1.size
    have hrel0 : Hid (addP zs ys 0 = zs) := Lib.hid (addP_zero zs ys)
    clear O1 oc g0
    go_wp2_with fail
    go_loopw [5, 6, 15] (fun _ _ i wr => ∃ k : Nat, k ≤ ys.length ∧ i = .int .i64 k ∧ wr.ownsRow base 2 1 (.slice av zs.length cv) zs.length ((addP zs ys k).map (Value.int .i64)) ∧ wr.ownsRow w.heap.size 2 1 (.slice ac ys.length cc) ys.length (ys.map (Value.int .i64)) ∧ w.grownBy wr (Value.slice av zs.length cv).ownBlock) (fun _ _ i _ => ys.length - (intOf i).toNat)
    case atStart => exact ⟨0, Nat.zero_le _, rfl, by rw [hrel0.out]; exact HS.out.1, HS.out.2.1, HS.out.2.2⟩
    case round =>
      obtain ⟨k, hk, rfl, ov, oc, gr⟩ := hrel
      by_cases hlt : k < ys.length
      · obtain ⟨g, c1, e0, hg1, hg2⟩ := own_some ov (by omega)
        cases e0
        obtain ⟨gc, c2, e0, hg3, hg4⟩ := own_some oc (by omega)
        cases e0
        have hne : g < w.heap.size := by
          have := HO.out.lt g rfl
          exact this.2
        have cv1 := ov.cellAt k (by omega)
        have cf1 := ov.frozenAt k
        have cc1 := oc.cellAt k (by omega)
        rw [List.getElem?_map, addP_get zs ys k k HL.out (by omega) (by omega), if_neg (by omega)] at cv1
        rw [List.getElem?_map, List.getElem?_eq_getElem hlt] at cc1
        simp only [Option.map_some] at cv1 cc1
        have hset := addP_set zs ys k HL.out (by omega)
        rw [show ys[k]?.getD 0 = ys[k] by rw [List.getElem?_eq_getElem hlt]; rfl] at hset
        have HSET := Lib.hid hset
        have OV := Lib.hid ov
        have OC := Lib.hid oc
        have GR := Lib.hid gr
        clear hset ov oc gr
        generalize zs[k]?.getD 0 = x at *
        generalize ys[k] = y at *
        go_wp2_with fail
        refine (sum_any _ [x, y] (by simp) _ (IntsAt.fresh rfl)).mono ?_
        rintro e w5 ⟨rfl, b5⟩
        rw [sumw_two]
        have al := (Below.refl wr.heap.size wr).alloc (Nat.le_refl _) (.cells #[.int .i64 x, .int .i64 y] 2)
        have b6 := below_step al b5
        have cv2 := cell_step b6 cv1
        have cf2 := frozen_step b6 cv1 cf1
        have ov2 := (own_below OV.out b6).stored k (.int .i64 (wrap64 (x + y)))
        rw [List.set_map_eq, HSET.out] at ov2
        have oc2 := row_other (own_below OC.out b6) ov2.2 (fun _ e => by cases e; exact hne)
        have gr2 := grown_trans (grown_trans GR.out (grown_below b6 _)) ov2.2
        have HX := Lib.hid (And.intro ov2.1 (And.intro oc2 gr2))
        clear ov2 oc2 gr2 b5 b6 al cv1 cf1
        generalize wrap64 (x + y) = s at *
        go_wp2_with fail
        obtain ⟨ov2, oc2, gr2⟩ := HX.out
        refine ⟨⟨k + 1, by omega, by go_num, ov2, oc2, gr2⟩, ?_⟩
        show ys.length - ((k : Int) + 1).toNat < ys.length - ((k : Int)).toNat
        omega
      · have hk' : k = zs.length := by omega
        subst hk'
        rw [addP_all zs ys HL.out] at ov
        have OV := Lib.hid ov
        have GR := Lib.hid gr
        clear ov gr oc
        go_wp2_with fail
        go_ret
        unfold AddedTo
        rw [if_pos HL.out]
        exact ⟨rfl, OV.out, GR.out⟩
  · have g1 : ((zs.length : Int) != (ys.length : Int)) = true := by simp; omega
    have HL := Lib.hid hl
    clear hu ho hl
    go_enter Try.func36, Try.ntmps36
    go_wp2_with fail
    go_ret
    unfold AddedTo
    rw [if_neg HL.out]
    exact ⟨rfl, Below.refl _ _⟩
end Go.Proofs.Ytinflmjombcolaa
