/- The walk of SgdCopies. -/
import Derived.Test.YtmffgbmjomaehaaSgdU
namespace Go.Proofs.Ytmffgbmjomaehaa
open Go.RowKit
set_option linter.unusedVariables false
theorem walk_copies_no1 (pa ma pb mb : Value) (za ya zb yb : List Int) (w : World) (hza : za.length ≤ maxLen) (hya : ya.length ≤ maxLen) (hzb : zb.length ≤ maxLen) (hyb : yb.length ≤ maxLen) (ia : IntsW .i64 w.heap.size w pa za) (ja : IntsW .i64 w.heap.size w ma ya) (ib : IntsW .i64 w.heap.size w pb zb) (jb : IntsW .i64 w.heap.size w mb yb) (hf : fewB [za, ya, []] = false) :
    Calls Try.prog 7 #[.agg #[pa, ma], .agg #[pb, mb]] w fun e w' => e = .returned (.bool true) ∧ Below w.heap.size w w' := by
  have AL := ((Below.refl w.heap.size w).alloc (Nat.le_refl _) (.cells #[pa, ma] 26)).alloc (by simp) (.cells #[pb, mb] 26)
  have HFa := Lib.hid (fun W (h : Below w.heap.size w W) => few3_any pa ma (.slice none 0 0) za ya [] hza hya (by simp) W (ia.later h) (ja.later h) (.inr IntsAt.nil))
  have HFb := Lib.hid (fun W (h : Below w.heap.size w W) => few3_any pb mb (.slice none 0 0) zb yb [] hzb hyb (by simp) W (ib.later h) (jb.later h) (.inr IntsAt.nil))
  have k01 := cells_two w pa ma 26
  have k23 := cells_two (w.alloc (.cells #[pa, ma] 26)) pb mb 26
  have BB := (Below.refl (w.alloc (.cells #[pa, ma] 26)).heap.size (w.alloc (.cells #[pa, ma] 26))).alloc (Nat.le_refl _) (.cells #[pb, mb] 26)
  rw [World.size_alloc] at k23
  have q0 := cell_step BB k01.1
  have q1 := cell_step BB k01.2
  have q2 := k23.1
  have q3 := k23.2
  have hz0 : ((w.alloc (.cells #[pa, ma] 26)).alloc (.cells #[pb, mb] 26)).heap.size = w.heap.size + 2 := by simp
  clear BB k01 k23
  rw [hf] at HFa
  obtain ⟨a1, c1, rfl⟩ := ia.value
  obtain ⟨a2, c2, rfl⟩ := ja.value
  obtain ⟨a3, c3, rfl⟩ := ib.value
  obtain ⟨a4, c4, rfl⟩ := jb.value
  clear ia ja ib jb hf
  go_enter Try.func7, Try.ntmps7
  go_wp2_with fail
  generalize ((w.alloc (.cells #[.slice a1 za.length c1, .slice a2 ya.length c2] 26)).alloc (.cells #[.slice a3 zb.length c3, .slice a4 yb.length c4] 26)) = W0 at *
  refine (HFa.out _ AL).mono ?_
  rintro e w1 ⟨rfl, b1⟩
  have B1 := below_step AL b1
  have q0 := cell_step b1 q0
  have q1 := cell_step b1 q1
  have q2 := cell_step b1 q2
  have q3 := cell_step b1 q3
  go_wp2_with fail
  refine (alive_any _).mono ?_
  rintro e w2 ⟨rfl, b2⟩
  have B2 := below_step B1 b2
  go_wp2_with fail
  go_ret
  exact ⟨rfl, B2⟩
theorem walk_copies_no2 (pa ma pb mb : Value) (za ya zb yb : List Int) (w : World) (hza : za.length ≤ maxLen) (hya : ya.length ≤ maxLen) (hzb : zb.length ≤ maxLen) (hyb : yb.length ≤ maxLen) (ia : IntsW .i64 w.heap.size w pa za) (ja : IntsW .i64 w.heap.size w ma ya) (ib : IntsW .i64 w.heap.size w pb zb) (jb : IntsW .i64 w.heap.size w mb yb) (hf : fewB [za, ya, []] = true) (hf2 : fewB [zb, yb, []] = false) :
    Calls Try.prog 7 #[.agg #[pa, ma], .agg #[pb, mb]] w fun e w' => e = .returned (.bool true) ∧ Below w.heap.size w w' := by
  have AL := ((Below.refl w.heap.size w).alloc (Nat.le_refl _) (.cells #[pa, ma] 26)).alloc (by simp) (.cells #[pb, mb] 26)
  have HFa := Lib.hid (fun W (h : Below w.heap.size w W) => few3_any pa ma (.slice none 0 0) za ya [] hza hya (by simp) W (ia.later h) (ja.later h) (.inr IntsAt.nil))
  have HFb := Lib.hid (fun W (h : Below w.heap.size w W) => few3_any pb mb (.slice none 0 0) zb yb [] hzb hyb (by simp) W (ib.later h) (jb.later h) (.inr IntsAt.nil))
  have k01 := cells_two w pa ma 26
  have k23 := cells_two (w.alloc (.cells #[pa, ma] 26)) pb mb 26
  have BB := (Below.refl (w.alloc (.cells #[pa, ma] 26)).heap.size (w.alloc (.cells #[pa, ma] 26))).alloc (Nat.le_refl _) (.cells #[pb, mb] 26)
  rw [World.size_alloc] at k23
  have q0 := cell_step BB k01.1
  have q1 := cell_step BB k01.2
  have q2 := k23.1
  have q3 := k23.2
  have hz0 : ((w.alloc (.cells #[pa, ma] 26)).alloc (.cells #[pb, mb] 26)).heap.size = w.heap.size + 2 := by simp
  clear BB k01 k23
  rw [hf] at HFa
  rw [hf2] at HFb
  obtain ⟨a1, c1, rfl⟩ := ia.value
  obtain ⟨a2, c2, rfl⟩ := ja.value
  obtain ⟨a3, c3, rfl⟩ := ib.value
  obtain ⟨a4, c4, rfl⟩ := jb.value
  clear ia ja ib jb hf hf2
  go_enter Try.func7, Try.ntmps7
  go_wp2_with fail
  generalize ((w.alloc (.cells #[.slice a1 za.length c1, .slice a2 ya.length c2] 26)).alloc (.cells #[.slice a3 zb.length c3, .slice a4 yb.length c4] 26)) = W0 at *
  refine (HFa.out _ AL).mono ?_
  rintro e w1 ⟨rfl, b1⟩
  have B1 := below_step AL b1
  have q0 := cell_step b1 q0
  have q1 := cell_step b1 q1
  have q2 := cell_step b1 q2
  have q3 := cell_step b1 q3
  go_wp2_with fail
  refine (HFb.out _ B1).mono ?_
  rintro e w2 ⟨rfl, b2⟩
  have B2 := below_step B1 b2
  go_wp2_with fail
  refine (alive_any _).mono ?_
  rintro e w3 ⟨rfl, b3⟩
  have B3 := below_step B2 b3
  go_wp2_with fail
  go_ret
  exact ⟨rfl, B3⟩
set_option maxHeartbeats 4000000 in
theorem walk_copies_yes (pa ma pb mb : Value) (za ya zb yb : List Int) (w : World) (hza : za.length ≤ maxLen) (hya : ya.length ≤ maxLen) (hzb : zb.length ≤ maxLen) (hyb : yb.length ≤ maxLen) (ia : IntsW .i64 w.heap.size w pa za) (ja : IntsW .i64 w.heap.size w ma ya) (ib : IntsW .i64 w.heap.size w pb zb) (jb : IntsW .i64 w.heap.size w mb yb) (hza8 : za.length * 8 ≤ 140737488351232) (hya8 : ya.length * 8 ≤ 140737488351232) (hzb8 : zb.length * 8 ≤ 140737488351232) (hyb8 : yb.length * 8 ≤ 140737488351232) (hf : fewB [za, ya, []] = true) (hf2 : fewB [zb, yb, []] = true) :
    Calls Try.prog 7 #[.agg #[pa, ma], .agg #[pb, mb]] w fun e w' => e = .returned (.bool true) ∧ Below w.heap.size w w' := by
  have AL := ((Below.refl w.heap.size w).alloc (Nat.le_refl _) (.cells #[pa, ma] 26)).alloc (by simp) (.cells #[pb, mb] 26)
  have HFa := Lib.hid (fun W (h : Below w.heap.size w W) => few3_any pa ma (.slice none 0 0) za ya [] hza hya (by simp) W (ia.later h) (ja.later h) (.inr IntsAt.nil))
  have HFb := Lib.hid (fun W (h : Below w.heap.size w W) => few3_any pb mb (.slice none 0 0) zb yb [] hzb hyb (by simp) W (ib.later h) (jb.later h) (.inr IntsAt.nil))
  have k01 := cells_two w pa ma 26
  have k23 := cells_two (w.alloc (.cells #[pa, ma] 26)) pb mb 26
  have BB := (Below.refl (w.alloc (.cells #[pa, ma] 26)).heap.size (w.alloc (.cells #[pa, ma] 26))).alloc (Nat.le_refl _) (.cells #[pb, mb] 26)
  rw [World.size_alloc] at k23
  have q0 := cell_step BB k01.1
  have q1 := cell_step BB k01.2
  have q2 := k23.1
  have q3 := k23.2
  have hz0 : ((w.alloc (.cells #[pa, ma] 26)).alloc (.cells #[pb, mb] 26)).heap.size = w.heap.size + 2 := by simp
  clear BB k01 k23
  rw [hf] at HFa
  rw [hf2] at HFb
  have HGa := Lib.hid (fun W (h : Below w.heap.size w W) => given13_apart pa ma za ya hza8 hya8 W (ia.later h) (ja.later h))
  have HGb := Lib.hid (fun W (h : Below w.heap.size w W) => given13_any pb mb zb yb hzb8 hyb8 W (ib.later h) (jb.later h))
  have HGa2 := Lib.hid (fun W (h : Below w.heap.size w W) => given13_any pa ma za ya hza8 hya8 W (ia.later h) (ja.later h))
  have HSt := Lib.hid (fun W (h : Below w.heap.size w W) => refStart13_any pa za hza8 W (ia.later h))
  have HIa := Lib.hid ia
  have HJa := Lib.hid ja
  have HIb := Lib.hid ib
  have HJb := Lib.hid jb
  obtain ⟨a1, c1, rfl⟩ := ia.value
  obtain ⟨a2, c2, rfl⟩ := ja.value
  obtain ⟨a3, c3, rfl⟩ := ib.value
  obtain ⟨a4, c4, rfl⟩ := jb.value
  clear ia ja ib jb hf hf2
  go_enter Try.func7, Try.ntmps7
  go_wp2_with fail
  generalize ((w.alloc (.cells #[.slice a1 za.length c1, .slice a2 ya.length c2] 26)).alloc (.cells #[.slice a3 zb.length c3, .slice a4 yb.length c4] 26)) = W0 at *
  refine (HFa.out _ AL).mono ?_
  rintro e w1 ⟨rfl, b1⟩
  have B1 := below_step AL b1
  have q0 := cell_step b1 q0
  have q1 := cell_step b1 q1
  have q2 := cell_step b1 q2
  have q3 := cell_step b1 q3
  go_wp2_with fail
  refine (HFb.out _ B1).mono ?_
  rintro e w2 ⟨rfl, b2⟩
  have B2 := below_step B1 b2
  have q0 := cell_step b2 q0
  have q1 := cell_step b2 q1
  have q2 := cell_step b2 q2
  have q3 := cell_step b2 q3
  go_wp2_with fail
  refine (HGa.out _ B2).mono ?_
  rintro e w3 ⟨vp, vm, rfl, op, om, pm, b3⟩
  have B3 := below_step B2 b3
  obtain ⟨ap, cp, rfl⟩ := own_value op
  obtain ⟨am, cm, rfl⟩ := own_value om
  have al3 := (Below.refl w3.heap.size w3).alloc (Nat.le_refl _) (.cells #[.slice ap za.length cp, .slice am ya.length cm] 31)
  have u01 := cells_two w3 (.slice ap za.length cp) (.slice am ya.length cm) 31
  have x3 := below_step b3 al3
  have q0 := cell_step x3 q0
  have q1 := cell_step x3 q1
  have q2 := cell_step x3 q2
  have q3 := cell_step x3 q3
  obtain ⟨u0, u1⟩ := u01
  have B3 := below_step B3 al3
  have OPl : ∀ j, (Value.slice ap za.length cp).ownBlock = some j → w2.heap.size ≤ j ∧ j < w3.heap.size := fun j e => op.lt j e
  have OMl : ∀ j, (Value.slice am ya.length cm).ownBlock = some j → w2.heap.size ≤ j ∧ j < w3.heap.size := fun j e => om.lt j e
  have OP := Lib.hid (own_below op al3)
  have OM := Lib.hid (own_below om al3)
  have HC := Lib.hid (clone13_any (.slice ap za.length cp) (.slice am ya.length cm) za ya hza8 hya8 _ (.inr (ints_own OP.out)) (.inr (ints_own OM.out)))
  have hs3 : (w3.alloc (.cells #[.slice ap za.length cp, .slice am ya.length cm] 31)).heap.size = w3.heap.size + 1 := by simp
  clear op om
  go_wp2_with fail
  generalize w3.alloc (.cells #[.slice ap za.length cp, .slice am ya.length cm] 31) = W3 at *
  refine HC.out.mono ?_
  rintro e w5 ⟨v5, rfl, ⟨vcp, vcm, rfl, ocp, ocm⟩, b5⟩
  have B5 := below_step B3 b5
  obtain ⟨dp, ep, rfl⟩ := own_value ocp
  obtain ⟨dm, em, rfl⟩ := own_value ocm
  have al5 := (Below.refl w5.heap.size w5).alloc (Nat.le_refl _) (.cells #[.slice dp za.length ep, .slice dm ya.length em] 31)
  have v01 := cells_two w5 (.slice dp za.length ep) (.slice dm ya.length em) 31
  have x5 := below_step b5 al5
  have q0 := cell_step x5 q0
  have q1 := cell_step x5 q1
  have q2 := cell_step x5 q2
  have q3 := cell_step x5 q3
  have u0 := cell_step x5 u0
  have u1 := cell_step x5 u1
  obtain ⟨v0, v1⟩ := v01
  have B5 := below_step B5 al5
  have OP := Lib.hid (own_below OP.out x5)
  have OM := Lib.hid (own_below OM.out x5)
  have OCP := Lib.hid (own_below ocp al5)
  have OCM := Lib.hid (own_below ocm al5)
  have HS := Lib.hid (start13_any (.slice ap za.length cp) za hza8 _ (.inr (ints_own OP.out)))
  have hs5 : (w5.alloc (.cells #[.slice dp za.length ep, .slice dm ya.length em] 31)).heap.size = w5.heap.size + 1 := by simp
  have z5 := b5.size
  clear ocp ocm HC
  go_wp2_with fail
  generalize w5.alloc (.cells #[.slice dp za.length ep, .slice dm ya.length em] 31) = W5 at *
  refine HS.out.mono ?_
  rintro e w6 ⟨v6, rfl, ⟨vsp, vsm, rfl, osp, osm⟩, b6⟩
  rw [zeros_length] at osm
  have B6 := below_step B5 b6
  obtain ⟨sp, tp, rfl⟩ := own_value osp
  obtain ⟨sm, tm, rfl⟩ := own_value osm
  have al6 := (Below.refl w6.heap.size w6).alloc (Nat.le_refl _) (.cells #[.slice sp za.length tp, .slice sm za.length tm] 31)
  have x01 := cells_two w6 (.slice sp za.length tp) (.slice sm za.length tm) 31
  have x6 := below_step b6 al6
  have q0 := cell_step x6 q0
  have q1 := cell_step x6 q1
  have q2 := cell_step x6 q2
  have q3 := cell_step x6 q3
  have u0 := cell_step x6 u0
  have u1 := cell_step x6 u1
  have v0 := cell_step x6 v0
  have v1 := cell_step x6 v1
  obtain ⟨x0, x1⟩ := x01
  have B7 := below_step B6 al6
  have OP := Lib.hid (own_below OP.out x6)
  have OM := Lib.hid (own_below OM.out x6)
  have OCP := Lib.hid (own_below OCP.out x6)
  have OCM := Lib.hid (own_below OCM.out x6)
  have OSP := Lib.hid (own_below osp al6)
  have OSM := Lib.hid (own_below osm al6)
  have hs6 : (w6.alloc (.cells #[.slice sp za.length tp, .slice sm za.length tm] 31)).heap.size = w6.heap.size + 1 := by simp
  have z6 := b6.size
  clear osp osm HS
  go_wp2_with fail
  generalize w6.alloc (.cells #[.slice sp za.length tp, .slice sm za.length tm] 31) = W7 at *
  have zAL := AL.size
  have zb1 := b1.size
  have zb2 := b2.size
  have zb3 := b3.size
  have hNN : w.heap.size + 2 ≤ w2.heap.size := by omega
  clear AL B1 B2 B3 B5 B6 al3 al5 al6 x3 x5 x6 b1 b2 b3 b5 b6
  have gbP : ∀ j, (Value.slice ap za.length cp).ownBlock = some j → w2.heap.size ≤ j ∧ j < w3.heap.size := fun j e => OPl j e
  have gbM : ∀ j, (Value.slice am ya.length cm).ownBlock = some j → w2.heap.size ≤ j ∧ j < w3.heap.size := fun j e => OMl j e
  go_loopw [8, 29] (fun _ i wr => ∃ (k : Nat) (ys : List Int), k ≤ za.length ∧ i = .int .i64 k ∧ wr.ownsRow w2.heap.size 2 1 (.slice ap za.length cp) za.length (ys.map (Value.int .i64)) ∧ ys.length = za.length ∧ W7.grownBy wr (Value.slice ap za.length cp).ownBlock) (fun _ i _ => za.length - (intOf i).toNat)
  case atStart => exact ⟨0, za, Nat.zero_le _, rfl, OP.out, rfl, grown_below (Below.refl _ _) _⟩
  case round =>
    obtain ⟨k, ys, hk, rfl, ov, hyl, gr⟩ := hrel
    have gne : ∀ j, w3.heap.size ≤ j ∨ j < w2.heap.size → (Value.slice ap za.length cp).ownBlock ≠ some j := fun j h e => by have := gbP j e; omega
    by_cases hlt : k < za.length
    · obtain ⟨gg, cc, e0, hg1, hg2⟩ := own_some ov (by omega)
      cases e0
      have cv1 := ov.cellAt k (by omega)
      have cf1 := ov.frozenAt k
      obtain ⟨y, hy⟩ : ∃ y, ys[k]? = some y := ⟨_, List.getElem?_eq_getElem (show k < ys.length by omega)⟩
      rw [List.getElem?_map, hy] at cv1
      simp only [Option.map_some] at cv1
      have uu := (cell_apart (g := w3.heap.size) (o := 0) gr (World.block_lt_of_cell? _ _ u0) (gne _ (by omega))).trans u0
      have OV := Lib.hid ov
      have GR := Lib.hid gr
      have HYL := Lib.hid hyl
      have HST := Lib.hid (fun x => ov.stored k (.int .i64 x))
      clear ov gr hyl hy gne q0 q1 q2 q3 u0 u1 v0 v1 x0 x1
      go_wp2_with fail
      refine ⟨⟨k + 1, ys.set k (wrap64 (y + 1)), by omega, by go_num, ?_, by rw [List.length_set]; exact HYL.out, ?_⟩, ?_⟩
      · have h := (HST.out (wrap64 (y + 1))).1
        rw [List.set_map_eq] at h
        exact h
      · exact grown_trans GR.out (HST.out (wrap64 (y + 1))).2
      · show za.length - ((k : Int) + 1).toNat < za.length - ((k : Int)).toNat
        omega
    · have hk' : k = za.length := by omega
      have q0 := (cell_apart (g := w.heap.size) (o := 0) gr (World.block_lt_of_cell? _ _ q0) (gne _ (by omega))).trans q0
      have q1 := (cell_apart (g := w.heap.size) (o := 1) gr (World.block_lt_of_cell? _ _ q1) (gne _ (by omega))).trans q1
      have q2 := (cell_apart (g := w.heap.size + 1) (o := 0) gr (World.block_lt_of_cell? _ _ q2) (gne _ (by omega))).trans q2
      have q3 := (cell_apart (g := w.heap.size + 1) (o := 1) gr (World.block_lt_of_cell? _ _ q3) (gne _ (by omega))).trans q3
      have u0 := (cell_apart (g := w3.heap.size) (o := 0) gr (World.block_lt_of_cell? _ _ u0) (gne _ (by omega))).trans u0
      have u1 := (cell_apart (g := w3.heap.size) (o := 1) gr (World.block_lt_of_cell? _ _ u1) (gne _ (by omega))).trans u1
      have v0 := (cell_apart (g := w5.heap.size) (o := 0) gr (World.block_lt_of_cell? _ _ v0) (gne _ (by omega))).trans v0
      have v1 := (cell_apart (g := w5.heap.size) (o := 1) gr (World.block_lt_of_cell? _ _ v1) (gne _ (by omega))).trans v1
      have x0 := (cell_apart (g := w6.heap.size) (o := 0) gr (World.block_lt_of_cell? _ _ x0) (gne _ (by omega))).trans x0
      have x1 := (cell_apart (g := w6.heap.size) (o := 1) gr (World.block_lt_of_cell? _ _ x1) (gne _ (by omega))).trans x1
      have OM := Lib.hid (row_apart OM.out gr (fun j e => pm j e))
      have OCP := Lib.hid (row_apart OCP.out gr (fun j e e2 => gne j (.inl (by have := (OCP.out.lt j e2).1; omega)) e))
      have OCM := Lib.hid (row_apart OCM.out gr (fun j e e2 => gne j (.inl (by have := (OCM.out.lt j e2).1; omega)) e))
      have OSP := Lib.hid (row_apart OSP.out gr (fun j e e2 => gne j (.inl (by have := (OSP.out.lt j e2).1; omega)) e))
      have OSM := Lib.hid (row_apart OSM.out gr (fun j e e2 => gne j (.inl (by have := (OSM.out.lt j e2).1; omega)) e))
      have B8 := B7.grown gr B7.size (fun j e => by have := gbP j e; omega)
      have hz8 := gr.size
      clear ov gr gne OP
      go_wp2_with fail
      obtain ⟨wa, hwa⟩ : ∃ wa, wa = wr := ⟨wr, rfl⟩
      subst hwa
      go_loopw [9, 43] (fun _ i wr => ∃ (k : Nat) (ys : List Int), k ≤ ya.length ∧ i = .int .i64 k ∧ wr.ownsRow w2.heap.size 2 1 (.slice am ya.length cm) ya.length (ys.map (Value.int .i64)) ∧ ys.length = ya.length ∧ wa.grownBy wr (Value.slice am ya.length cm).ownBlock) (fun _ i _ => ya.length - (intOf i).toNat)
      case atStart => exact ⟨0, ya, Nat.zero_le _, rfl, OM.out, rfl, grown_below (Below.refl _ _) _⟩
      case round =>
        obtain ⟨k, ys, hk, rfl, ov, hyl, gr⟩ := hrel
        have gne : ∀ j, w3.heap.size ≤ j ∨ j < w2.heap.size → (Value.slice am ya.length cm).ownBlock ≠ some j := fun j h e => by have := gbM j e; omega
        by_cases hlt : k < ya.length
        · obtain ⟨gg, cc, e0, hg1, hg2⟩ := own_some ov (by omega)
          cases e0
          have cv1 := ov.cellAt k (by omega)
          have cf1 := ov.frozenAt k
          obtain ⟨y, hy⟩ : ∃ y, ys[k]? = some y := ⟨_, List.getElem?_eq_getElem (show k < ys.length by omega)⟩
          rw [List.getElem?_map, hy] at cv1
          simp only [Option.map_some] at cv1
          have uu := (cell_apart (g := w3.heap.size) (o := 1) gr (World.block_lt_of_cell? _ _ u1) (gne _ (by omega))).trans u1
          have OV := Lib.hid ov
          have GR := Lib.hid gr
          have HYL := Lib.hid hyl
          have HST := Lib.hid (fun x => ov.stored k (.int .i64 x))
          clear ov gr hyl hy gne q0 q1 q2 q3 u0 u1 v0 v1 x0 x1
          go_wp2_with fail
          refine ⟨⟨k + 1, ys.set k (wrap64 (y + 1)), by omega, by go_num, ?_, by rw [List.length_set]; exact HYL.out, ?_⟩, ?_⟩
          · have h := (HST.out (wrap64 (y + 1))).1
            rw [List.set_map_eq] at h
            exact h
          · exact grown_trans GR.out (HST.out (wrap64 (y + 1))).2
          · show ya.length - ((k : Int) + 1).toNat < ya.length - ((k : Int)).toNat
            omega
        · have hk' : k = ya.length := by omega
          have q0 := (cell_apart (g := w.heap.size) (o := 0) gr (World.block_lt_of_cell? _ _ q0) (gne _ (by omega))).trans q0
          have q1 := (cell_apart (g := w.heap.size) (o := 1) gr (World.block_lt_of_cell? _ _ q1) (gne _ (by omega))).trans q1
          have q2 := (cell_apart (g := w.heap.size + 1) (o := 0) gr (World.block_lt_of_cell? _ _ q2) (gne _ (by omega))).trans q2
          have q3 := (cell_apart (g := w.heap.size + 1) (o := 1) gr (World.block_lt_of_cell? _ _ q3) (gne _ (by omega))).trans q3
          have u0 := (cell_apart (g := w3.heap.size) (o := 0) gr (World.block_lt_of_cell? _ _ u0) (gne _ (by omega))).trans u0
          have u1 := (cell_apart (g := w3.heap.size) (o := 1) gr (World.block_lt_of_cell? _ _ u1) (gne _ (by omega))).trans u1
          have v0 := (cell_apart (g := w5.heap.size) (o := 0) gr (World.block_lt_of_cell? _ _ v0) (gne _ (by omega))).trans v0
          have v1 := (cell_apart (g := w5.heap.size) (o := 1) gr (World.block_lt_of_cell? _ _ v1) (gne _ (by omega))).trans v1
          have x0 := (cell_apart (g := w6.heap.size) (o := 0) gr (World.block_lt_of_cell? _ _ x0) (gne _ (by omega))).trans x0
          have x1 := (cell_apart (g := w6.heap.size) (o := 1) gr (World.block_lt_of_cell? _ _ x1) (gne _ (by omega))).trans x1
          have OCP := Lib.hid (row_apart OCP.out gr (fun j e e2 => gne j (.inl (by have := (OCP.out.lt j e2).1; omega)) e))
          have OCM := Lib.hid (row_apart OCM.out gr (fun j e e2 => gne j (.inl (by have := (OCM.out.lt j e2).1; omega)) e))
          have OSP := Lib.hid (row_apart OSP.out gr (fun j e e2 => gne j (.inl (by have := (OSP.out.lt j e2).1; omega)) e))
          have OSM := Lib.hid (row_apart OSM.out gr (fun j e e2 => gne j (.inl (by have := (OSM.out.lt j e2).1; omega)) e))
          have B9 := B8.grown gr B8.size (fun j e => by have := gbM j e; omega)
          have HB9 : ∀ W, Below wr.heap.size wr W → Below w.heap.size w W := fun W h => B9.trans (h.mono B9.size)
          have HB9 := Lib.hid HB9
          clear ov gr gne OM u0 u1
          go_wp2_with fail
          have HAL := Lib.hid (alive_any wr.drew)
          have HSab : ∀ W pp pm' qq qm, IntsW .i64 W.heap.size W pp za → IntsW .i64 W.heap.size W pm' ya → IntsW .i64 W.heap.size W qq zb → IntsW .i64 W.heap.size W qm yb → Calls Try.prog 22 #[.agg #[pp, pm'], .agg #[qq, qm]] W fun e w' => e = .returned (.bool (sameS za ya zb yb)) ∧ Below W.heap.size W w' := fun W pp pm' qq qm i1 i2 i3 i4 => same13_any pp pm' qq qm za ya zb yb (by omega) (by omega) (by omega) (by omega) W i1 i2 i3 i4
          have HSab := Lib.hid HSab
          have HSaa : ∀ W pp pm' qq qm, IntsW .i64 W.heap.size W pp za → IntsW .i64 W.heap.size W pm' ya → IntsW .i64 W.heap.size W qq za → IntsW .i64 W.heap.size W qm ya → Calls Try.prog 22 #[.agg #[pp, pm'], .agg #[qq, qm]] W fun e w' => e = .returned (.bool true) ∧ Below W.heap.size W w' := fun W pp pm' qq qm i1 i2 i3 i4 => by
            have h := same13_any pp pm' qq qm za ya za ya (by omega) (by omega) (by omega) (by omega) W i1 i2 i3 i4
            unfold sameS at h
            rw [sameL_self, sameL_self] at h
            exact h
          have HSaa := Lib.hid HSaa
          have HRab : ∀ W pp pm' qq qm, IntsW .i64 W.heap.size W pp za → IntsW .i64 W.heap.size W pm' ya → IntsW .i64 W.heap.size W qq zb → IntsW .i64 W.heap.size W qm yb → Calls Try.prog 14 #[.agg #[pp, pm'], .agg #[qq, qm]] W fun e w' => e = .returned (.bool (sameS za ya zb yb)) ∧ Below W.heap.size W w' := fun W pp pm' qq qm i1 i2 i3 i4 => refSame13_any pp pm' qq qm za ya zb yb (by omega) (by omega) (by omega) (by omega) W i1 i2 i3 i4
          have HRab := Lib.hid HRab
          have HRaa : ∀ W pp pm' qq qm xs, xs.length ≤ 140737488351232 → IntsW .i64 W.heap.size W pp za → IntsW .i64 W.heap.size W pm' xs → IntsW .i64 W.heap.size W qq za → IntsW .i64 W.heap.size W qm xs → Calls Try.prog 14 #[.agg #[pp, pm'], .agg #[qq, qm]] W fun e w' => e = .returned (.bool true) ∧ Below W.heap.size W w' := fun W pp pm' qq qm xs hx i1 i2 i3 i4 => by
            have h := refSame13_any pp pm' qq qm za xs za xs (by omega) (by omega) (by omega) (by omega) W i1 i2 i3 i4
            unfold sameS at h
            rw [sameL_self, sameL_self] at h
            exact h
          have HRaa := Lib.hid HRaa
          generalize sameS za ya zb yb = sb at *
          refine wp_region_held_drew (S := fun w' => w'.cell? ⟨w.heap.size, 0, none⟩ = some (.slice a1 za.length c1) ∧ w'.cell? ⟨w.heap.size, 1, none⟩ = some (.slice a2 ya.length c2) ∧ w'.cell? ⟨w.heap.size + 1, 0, none⟩ = some (.slice a3 zb.length c3) ∧ w'.cell? ⟨w.heap.size + 1, 1, none⟩ = some (.slice a4 yb.length c4) ∧ w'.cell? ⟨w5.heap.size, 0, none⟩ = some (.slice dp za.length ep) ∧ w'.cell? ⟨w5.heap.size, 1, none⟩ = some (.slice dm ya.length em) ∧ w'.cell? ⟨w6.heap.size, 0, none⟩ = some (.slice sp za.length tp) ∧ w'.cell? ⟨w6.heap.size, 1, none⟩ = some (.slice sm za.length tm) ∧ Below wr.heap.size wr w') (by kernel_rfl) ?_ (fun hHeld => ?_)
          · exact ⟨q0, q1, q2, q3, v0, v1, x0, x1, (Below.refl _ _).drew⟩
          clear q0 q1 q2 q3 v0 v1 x0 x1 B8 B9
          refine wpAnyH_ready (rs := [0]) (by kernel_rfl) (by simp) ?_
          refine AllReadyH.cons rfl (fun K hK => ?_) AllReadyH.nil
          simp only [List.setIfInBounds_toArray, List.set_cons_zero, List.set_cons_succ, List.getElem_toArray, List.getElem_cons_zero, List.getElem_cons_succ]
          go_simp
          go_at_call 9
          obtain ⟨h0, h1, h2, h3, h4, h5, h6, h7, h8⟩ := hHeld
          refine (HAL.out).mono ?_
          rintro e w_k0 ⟨rfl, k0⟩
          go_wp2_with fail
          refine hK.out _ _ ⟨cell_step k0 h0, cell_step k0 h1, cell_step k0 h2, cell_step k0 h3, cell_step k0 h4, cell_step k0 h5, cell_step k0 h6, cell_step k0 h7, below_step h8 k0⟩ (fun hHeld => ?_)
          clear hK K h0 h1 h2 h3 h4 h5 h6 h7 h8
          try simp only [Act.put, List.setIfInBounds_toArray, List.set_cons_zero, List.set_cons_succ, List.getElem_toArray, List.getElem_cons_zero, List.getElem_cons_succ]
          refine wpAnyH_take (i := 1) (v := ?v1) rfl (by kernel_rfl) (by kernel_rfl) (by kernel_rfl) (fun _ _ _ h => h) (Or.inl ⟨by rfl, ?hy1⟩) (by assumption) ?rest1
          case hy1 => (intro w hSw; (try dsimp only at hSw); go_simp; (first | done | with_reducible rfl))
          simp only [Act.put, List.setIfInBounds_toArray, List.set_cons_zero, List.set_cons_succ, List.getElem_toArray, List.getElem_cons_zero, List.getElem_cons_succ]
          refine wpAnyH_take (i := 2) (v := ?v2) rfl (by kernel_rfl) (by kernel_rfl) (by kernel_rfl) (fun _ _ _ h => h) (Or.inl ⟨by rfl, ?hy2⟩) (by assumption) ?rest2
          case hy2 => (intro w hSw; (try dsimp only at hSw); go_simp; (first | done | with_reducible rfl))
          simp only [Act.put, List.setIfInBounds_toArray, List.set_cons_zero, List.set_cons_succ, List.getElem_toArray, List.getElem_cons_zero, List.getElem_cons_succ]
          refine wpAnyH_take (i := 4) (v := ?v3) rfl (by kernel_rfl) (by kernel_rfl) (by kernel_rfl) (fun _ _ _ h => h) (Or.inl ⟨by rfl, ?hy3⟩) (by assumption) ?rest3
          case hy3 => (intro w hSw; (try dsimp only at hSw); go_simp; (first | done | with_reducible rfl))
          simp only [Act.put, List.setIfInBounds_toArray, List.set_cons_zero, List.set_cons_succ, List.getElem_toArray, List.getElem_cons_zero, List.getElem_cons_succ]
          refine wpAnyH_take (i := 7) (v := ?v4) rfl (by kernel_rfl) (by kernel_rfl) (by kernel_rfl) (fun _ _ _ h => h) (Or.inl ⟨by rfl, ?hy4⟩) (by assumption) ?rest4
          case hy4 => (intro w hSw; (try dsimp only at hSw); go_simp; (first | done | with_reducible rfl))
          simp only [Act.put, List.setIfInBounds_toArray, List.set_cons_zero, List.set_cons_succ, List.getElem_toArray, List.getElem_cons_zero, List.getElem_cons_succ]
          refine wpAnyH_take (i := 8) (v := ?v5) rfl (by kernel_rfl) (by kernel_rfl) (by kernel_rfl) (fun _ _ _ h => h) (Or.inl ⟨by rfl, ?hy5⟩) (by assumption) ?rest5
          case hy5 => (intro w hSw; (try dsimp only at hSw); go_simp; (first | done | with_reducible rfl))
          simp only [Act.put, List.setIfInBounds_toArray, List.set_cons_zero, List.set_cons_succ, List.getElem_toArray, List.getElem_cons_zero, List.getElem_cons_succ]
          refine wpAnyH_ready (rs := [3]) (by kernel_rfl) (by simp) ?_
          refine AllReadyH.cons rfl (fun K hK => ?_) AllReadyH.nil
          simp only [List.setIfInBounds_toArray, List.set_cons_zero, List.set_cons_succ, List.getElem_toArray, List.getElem_cons_zero, List.getElem_cons_succ]
          go_simp
          go_at_call 10
          obtain ⟨h0, h1, h2, h3, h4, h5, h6, h7, h8⟩ := hHeld
          refine (HGa2.out _ (HB9.out _ h8)).mono ?_
          rintro e w_k1 ⟨v, rfl, ⟨vp, vm, rfl, og1, og2⟩, k1⟩
          obtain ⟨f1, l1, rfl⟩ := own_value og1
          obtain ⟨f2, l2, rfl⟩ := own_value og2
          have OG1 := Lib.hid og1
          have OG2 := Lib.hid og2
          clear og1 og2
          go_wp2_with fail
          refine hK.out _ _ ⟨cell_step k1 h0, cell_step k1 h1, cell_step k1 h2, cell_step k1 h3, cell_step k1 h4, cell_step k1 h5, cell_step k1 h6, cell_step k1 h7, below_step h8 k1⟩ (fun hHeld => ?_)
          clear hK K h0 h1 h2 h3 h4 h5 h6 h7 h8
          try simp only [Act.put, List.setIfInBounds_toArray, List.set_cons_zero, List.set_cons_succ, List.getElem_toArray, List.getElem_cons_zero, List.getElem_cons_succ]
          refine wpAnyH_ready (rs := [5]) (by kernel_rfl) (by simp) ?_
          refine AllReadyH.cons rfl (fun K hK => ?_) AllReadyH.nil
          simp only [List.setIfInBounds_toArray, List.set_cons_zero, List.set_cons_succ, List.getElem_toArray, List.getElem_cons_zero, List.getElem_cons_succ]
          go_simp
          go_at_call 10
          obtain ⟨h0, h1, h2, h3, h4, h5, h6, h7, h8⟩ := hHeld
          refine (HGb.out _ (HB9.out _ h8)).mono ?_
          rintro e w_k2 ⟨v, rfl, ⟨vp, vm, rfl, og3, og4⟩, k2⟩
          obtain ⟨f3, l3, rfl⟩ := own_value og3
          obtain ⟨f4, l4, rfl⟩ := own_value og4
          have OG3 := Lib.hid og3
          have OG4 := Lib.hid og4
          have OG1 := Lib.hid (own_below OG1.out k2)
          have OG2 := Lib.hid (own_below OG2.out k2)
          clear og3 og4
          go_wp2_with fail
          refine hK.out _ _ ⟨cell_step k2 h0, cell_step k2 h1, cell_step k2 h2, cell_step k2 h3, cell_step k2 h4, cell_step k2 h5, cell_step k2 h6, cell_step k2 h7, below_step h8 k2⟩ (fun hHeld => ?_)
          clear hK K h0 h1 h2 h3 h4 h5 h6 h7 h8
          try simp only [Act.put, List.setIfInBounds_toArray, List.set_cons_zero, List.set_cons_succ, List.getElem_toArray, List.getElem_cons_zero, List.getElem_cons_succ]
          refine wpAnyH_ready (rs := [6]) (by kernel_rfl) (by simp) ?_
          refine AllReadyH.cons rfl (fun K hK => ?_) AllReadyH.nil
          simp only [List.setIfInBounds_toArray, List.set_cons_zero, List.set_cons_succ, List.getElem_toArray, List.getElem_cons_zero, List.getElem_cons_succ]
          go_simp
          go_at_call 22
          obtain ⟨h0, h1, h2, h3, h4, h5, h6, h7, h8⟩ := hHeld
          refine (HSab.out _ _ _ _ _ (.inr (ints_own OG1.out)) (.inr (ints_own OG2.out)) (.inr (ints_own OG3.out)) (.inr (ints_own OG4.out))).mono ?_
          rintro e w_k3 ⟨rfl, k3⟩
          go_wp2_with fail
          refine hK.out _ _ ⟨cell_step k3 h0, cell_step k3 h1, cell_step k3 h2, cell_step k3 h3, cell_step k3 h4, cell_step k3 h5, cell_step k3 h6, cell_step k3 h7, below_step h8 k3⟩ (fun hHeld => ?_)
          clear hK K h0 h1 h2 h3 h4 h5 h6 h7 h8
          try simp only [Act.put, List.setIfInBounds_toArray, List.set_cons_zero, List.set_cons_succ, List.getElem_toArray, List.getElem_cons_zero, List.getElem_cons_succ]
          refine wpAnyH_ready (rs := [9]) (by kernel_rfl) (by simp) ?_
          refine AllReadyH.cons rfl (fun K hK => ?_) AllReadyH.nil
          simp only [List.setIfInBounds_toArray, List.set_cons_zero, List.set_cons_succ, List.getElem_toArray, List.getElem_cons_zero, List.getElem_cons_succ]
          go_simp
          go_at_call 14
          obtain ⟨h0, h1, h2, h3, h4, h5, h6, h7, h8⟩ := hHeld
          refine (HRab.out _ _ _ _ _ (HIa.out.later (HB9.out _ h8)) (HJa.out.later (HB9.out _ h8)) (HIb.out.later (HB9.out _ h8)) (HJb.out.later (HB9.out _ h8))).mono ?_
          rintro e w_k4 ⟨rfl, k4⟩
          go_wp2_with fail
          refine hK.out _ _ ⟨cell_step k4 h0, cell_step k4 h1, cell_step k4 h2, cell_step k4 h3, cell_step k4 h4, cell_step k4 h5, cell_step k4 h6, cell_step k4 h7, below_step h8 k4⟩ (fun hHeld => ?_)
          clear hK K h0 h1 h2 h3 h4 h5 h6 h7 h8
          try simp only [Act.put, List.setIfInBounds_toArray, List.set_cons_zero, List.set_cons_succ, List.getElem_toArray, List.getElem_cons_zero, List.getElem_cons_succ]
          refine wpAnyH_take (i := 10) (v := ?v6) rfl (by kernel_rfl) (by kernel_rfl) (by kernel_rfl) (fun _ _ _ h => h) (Or.inl ⟨by rfl, ?hy6⟩) (by assumption) ?rest6
          case hy6 => (intro w hSw; (try dsimp only at hSw); go_simp; (first | done | with_reducible rfl))
          simp only [Act.put, List.setIfInBounds_toArray, List.set_cons_zero, List.set_cons_succ, List.getElem_toArray, List.getElem_cons_zero, List.getElem_cons_succ]
          refine wpAnyH_take (i := 11) (v := ?v7) rfl (by kernel_rfl) (by kernel_rfl) (by kernel_rfl) (fun _ _ _ h => h) (Or.inl ⟨by rfl, ?hy7⟩) (by assumption) ?rest7
          case hy7 => (intro w hSw; (try dsimp only at hSw); go_simp; (first | done | with_reducible rfl))
          simp only [Act.put, List.setIfInBounds_toArray, List.set_cons_zero, List.set_cons_succ, List.getElem_toArray, List.getElem_cons_zero, List.getElem_cons_succ]
          refine wpAnyH_take (i := 12) (v := ?v8) rfl (by kernel_rfl) (by kernel_rfl) (by kernel_rfl) (fun _ _ _ h => h) (Or.inl ⟨by rfl, ?hy8⟩) (by assumption) ?rest8
          case hy8 => (intro w hSw; (try dsimp only at hSw); go_simp; (first | done | with_reducible rfl))
          simp only [Act.put, List.setIfInBounds_toArray, List.set_cons_zero, List.set_cons_succ, List.getElem_toArray, List.getElem_cons_zero, List.getElem_cons_succ]
          refine wpAnyH_take (i := 13) (v := ?v9) rfl (by kernel_rfl) (by kernel_rfl) (by kernel_rfl) (fun _ _ _ h => h) (Or.inl ⟨by rfl, ?hy9⟩) (by assumption) ?rest9
          case hy9 => (intro w hSw; (try dsimp only at hSw); go_simp; (first | done | with_reducible rfl))
          simp only [Act.put, List.setIfInBounds_toArray, List.set_cons_zero, List.set_cons_succ, List.getElem_toArray, List.getElem_cons_zero, List.getElem_cons_succ]
          refine wpAnyH_take (i := 14) (v := ?v10) rfl (by kernel_rfl) (by kernel_rfl) (by kernel_rfl) (fun _ _ _ h => h) (Or.inl ⟨by rfl, ?hy10⟩) (by assumption) ?rest10
          case hy10 => (intro w hSw; (try dsimp only at hSw); go_simp; (first | done | with_reducible rfl))
          simp only [Act.put, List.setIfInBounds_toArray, List.set_cons_zero, List.set_cons_succ, List.getElem_toArray, List.getElem_cons_zero, List.getElem_cons_succ]
          refine wpAnyH_ready (rs := [15]) (by kernel_rfl) (by simp) ?_
          refine AllReadyH.cons rfl (fun K hK => ?_) AllReadyH.nil
          simp only [List.setIfInBounds_toArray, List.set_cons_zero, List.set_cons_succ, List.getElem_toArray, List.getElem_cons_zero, List.getElem_cons_succ]
          go_simp
          go_at_call 10
          obtain ⟨h0, h1, h2, h3, h4, h5, h6, h7, h8⟩ := hHeld
          refine (HGa2.out _ (HB9.out _ h8)).mono ?_
          rintro e w_k5 ⟨v, rfl, ⟨vp, vm, rfl, og1, og2⟩, k5⟩
          obtain ⟨f5, l5, rfl⟩ := own_value og1
          obtain ⟨f6, l6, rfl⟩ := own_value og2
          have h8' := below_step h8 k5
          have OG5 := Lib.hid og1
          have OG6 := Lib.hid og2
          clear og1 og2
          go_wp2_with fail
          refine hK.out _ _ ⟨cell_step k5 h0, cell_step k5 h1, cell_step k5 h2, cell_step k5 h3, cell_step k5 h4, cell_step k5 h5, cell_step k5 h6, cell_step k5 h7, below_step h8 k5⟩ (fun hHeld => ?_)
          clear hK K h0 h1 h2 h3 h4 h5 h6 h7 h8
          try simp only [Act.put, List.setIfInBounds_toArray, List.set_cons_zero, List.set_cons_succ, List.getElem_toArray, List.getElem_cons_zero, List.getElem_cons_succ]
          refine wpAnyH_ready (rs := [16]) (by kernel_rfl) (by simp) ?_
          refine AllReadyH.cons rfl (fun K hK => ?_) AllReadyH.nil
          simp only [List.setIfInBounds_toArray, List.set_cons_zero, List.set_cons_succ, List.getElem_toArray, List.getElem_cons_zero, List.getElem_cons_succ]
          go_simp
          go_at_call 22
          obtain ⟨h0, h1, h2, h3, h4, h5, h6, h7, h8⟩ := hHeld
          refine (HSaa.out _ _ _ _ _ (.inr ((ints_own OCP.out).later h8)) (.inr ((ints_own OCM.out).later h8)) (.inr (ints_own OG5.out)) (.inr (ints_own OG6.out))).mono ?_
          rintro e w_k6 ⟨rfl, k6⟩
          go_wp2_with fail
          refine hK.out _ _ ⟨cell_step k6 h0, cell_step k6 h1, cell_step k6 h2, cell_step k6 h3, cell_step k6 h4, cell_step k6 h5, cell_step k6 h6, cell_step k6 h7, below_step h8 k6⟩ (fun hHeld => ?_)
          clear hK K h0 h1 h2 h3 h4 h5 h6 h7 h8
          try simp only [Act.put, List.setIfInBounds_toArray, List.set_cons_zero, List.set_cons_succ, List.getElem_toArray, List.getElem_cons_zero, List.getElem_cons_succ]
          refine wpAnyH_take (i := 17) (v := ?v11) rfl (by kernel_rfl) (by kernel_rfl) (by kernel_rfl) (fun _ _ _ h => h) (Or.inl ⟨by rfl, ?hy11⟩) (by assumption) ?rest11
          case hy11 => (intro w hSw; (try dsimp only at hSw); go_simp; (first | done | with_reducible rfl))
          simp only [Act.put, List.setIfInBounds_toArray, List.set_cons_zero, List.set_cons_succ, List.getElem_toArray, List.getElem_cons_zero, List.getElem_cons_succ]
          refine wpAnyH_take (i := 18) (v := ?v12) rfl (by kernel_rfl) (by kernel_rfl) (by kernel_rfl) (fun _ _ _ h => h) (Or.inl ⟨by rfl, ?hy12⟩) (by assumption) ?rest12
          case hy12 => (intro w hSw; (try dsimp only at hSw); go_simp; (first | done | with_reducible rfl))
          simp only [Act.put, List.setIfInBounds_toArray, List.set_cons_zero, List.set_cons_succ, List.getElem_toArray, List.getElem_cons_zero, List.getElem_cons_succ]
          refine wpAnyH_take (i := 19) (v := ?v13) rfl (by kernel_rfl) (by kernel_rfl) (by kernel_rfl) (fun _ _ _ h => h) (Or.inl ⟨by rfl, ?hy13⟩) (by assumption) ?rest13
          case hy13 => (intro w hSw; (try dsimp only at hSw); go_simp; (first | done | with_reducible rfl))
          simp only [Act.put, List.setIfInBounds_toArray, List.set_cons_zero, List.set_cons_succ, List.getElem_toArray, List.getElem_cons_zero, List.getElem_cons_succ]
          refine wpAnyH_take (i := 21) (v := ?v14) rfl (by kernel_rfl) (by kernel_rfl) (by kernel_rfl) (fun _ _ _ h => h) (Or.inl ⟨by rfl, ?hy14⟩) (by assumption) ?rest14
          case hy14 => (intro w hSw; (try dsimp only at hSw); go_simp; (first | done | with_reducible rfl))
          simp only [Act.put, List.setIfInBounds_toArray, List.set_cons_zero, List.set_cons_succ, List.getElem_toArray, List.getElem_cons_zero, List.getElem_cons_succ]
          refine wpAnyH_ready (rs := [20]) (by kernel_rfl) (by simp) ?_
          refine AllReadyH.cons rfl (fun K hK => ?_) AllReadyH.nil
          simp only [List.setIfInBounds_toArray, List.set_cons_zero, List.set_cons_succ, List.getElem_toArray, List.getElem_cons_zero, List.getElem_cons_succ]
          go_simp
          go_at_call 15
          obtain ⟨h0, h1, h2, h3, h4, h5, h6, h7, h8⟩ := hHeld
          refine (back_any dp dm za.length ya.length ep em _).mono ?_
          rintro e w_k7 ⟨rfl, k7⟩
          go_wp2_with fail
          refine hK.out _ _ ⟨cell_step k7 h0, cell_step k7 h1, cell_step k7 h2, cell_step k7 h3, cell_step k7 h4, cell_step k7 h5, cell_step k7 h6, cell_step k7 h7, below_step h8 k7⟩ (fun hHeld => ?_)
          clear hK K h0 h1 h2 h3 h4 h5 h6 h7 h8
          try simp only [Act.put, List.setIfInBounds_toArray, List.set_cons_zero, List.set_cons_succ, List.getElem_toArray, List.getElem_cons_zero, List.getElem_cons_succ]
          refine wpAnyH_ready (rs := [22]) (by kernel_rfl) (by simp) ?_
          refine AllReadyH.cons rfl (fun K hK => ?_) AllReadyH.nil
          simp only [List.setIfInBounds_toArray, List.set_cons_zero, List.set_cons_succ, List.getElem_toArray, List.getElem_cons_zero, List.getElem_cons_succ]
          go_simp
          go_at_call 14
          obtain ⟨h0, h1, h2, h3, h4, h5, h6, h7, h8⟩ := hHeld
          refine (HRaa.out _ _ _ _ _ ya (by omega) (.inr ((ints_own OCP.out).later h8)) (.inr ((ints_own OCM.out).later h8)) (HIa.out.later (HB9.out _ h8)) (HJa.out.later (HB9.out _ h8))).mono ?_
          rintro e w_k8 ⟨rfl, k8⟩
          go_wp2_with fail
          refine hK.out _ _ ⟨cell_step k8 h0, cell_step k8 h1, cell_step k8 h2, cell_step k8 h3, cell_step k8 h4, cell_step k8 h5, cell_step k8 h6, cell_step k8 h7, below_step h8 k8⟩ (fun hHeld => ?_)
          clear hK K h0 h1 h2 h3 h4 h5 h6 h7 h8
          try simp only [Act.put, List.setIfInBounds_toArray, List.set_cons_zero, List.set_cons_succ, List.getElem_toArray, List.getElem_cons_zero, List.getElem_cons_succ]
          refine wpAnyH_take (i := 23) (v := ?v15) rfl (by kernel_rfl) (by kernel_rfl) (by kernel_rfl) (fun _ _ _ h => h) (Or.inl ⟨by rfl, ?hy15⟩) (by assumption) ?rest15
          case hy15 => (intro w hSw; (try dsimp only at hSw); go_simp; (first | done | with_reducible rfl))
          simp only [Act.put, List.setIfInBounds_toArray, List.set_cons_zero, List.set_cons_succ, List.getElem_toArray, List.getElem_cons_zero, List.getElem_cons_succ]
          refine wpAnyH_take (i := 24) (v := ?v16) rfl (by kernel_rfl) (by kernel_rfl) (by kernel_rfl) (fun _ _ _ h => h) (Or.inl ⟨by rfl, ?hy16⟩) (by assumption) ?rest16
          case hy16 => (intro w hSw; (try dsimp only at hSw); go_simp; (first | done | with_reducible rfl))
          simp only [Act.put, List.setIfInBounds_toArray, List.set_cons_zero, List.set_cons_succ, List.getElem_toArray, List.getElem_cons_zero, List.getElem_cons_succ]
          refine wpAnyH_take (i := 25) (v := ?v17) rfl (by kernel_rfl) (by kernel_rfl) (by kernel_rfl) (fun _ _ _ h => h) (Or.inl ⟨by rfl, ?hy17⟩) (by assumption) ?rest17
          case hy17 => (intro w hSw; (try dsimp only at hSw); go_simp; (first | done | with_reducible rfl))
          simp only [Act.put, List.setIfInBounds_toArray, List.set_cons_zero, List.set_cons_succ, List.getElem_toArray, List.getElem_cons_zero, List.getElem_cons_succ]
          refine wpAnyH_take (i := 27) (v := ?v18) rfl (by kernel_rfl) (by kernel_rfl) (by kernel_rfl) (fun _ _ _ h => h) (Or.inl ⟨by rfl, ?hy18⟩) (by assumption) ?rest18
          case hy18 => (intro w hSw; (try dsimp only at hSw); go_simp; (first | done | with_reducible rfl))
          simp only [Act.put, List.setIfInBounds_toArray, List.set_cons_zero, List.set_cons_succ, List.getElem_toArray, List.getElem_cons_zero, List.getElem_cons_succ]
          refine wpAnyH_take (i := 28) (v := ?v19) rfl (by kernel_rfl) (by kernel_rfl) (by kernel_rfl) (fun _ _ _ h => h) (Or.inl ⟨by rfl, ?hy19⟩) (by assumption) ?rest19
          case hy19 => (intro w hSw; (try dsimp only at hSw); go_simp; (first | done | with_reducible rfl))
          simp only [Act.put, List.setIfInBounds_toArray, List.set_cons_zero, List.set_cons_succ, List.getElem_toArray, List.getElem_cons_zero, List.getElem_cons_succ]
          refine wpAnyH_ready (rs := [26]) (by kernel_rfl) (by simp) ?_
          refine AllReadyH.cons rfl (fun K hK => ?_) AllReadyH.nil
          simp only [List.setIfInBounds_toArray, List.set_cons_zero, List.set_cons_succ, List.getElem_toArray, List.getElem_cons_zero, List.getElem_cons_succ]
          go_simp
          go_at_call 15
          obtain ⟨h0, h1, h2, h3, h4, h5, h6, h7, h8⟩ := hHeld
          refine (back_any sp sm za.length za.length tp tm _).mono ?_
          rintro e w_k9 ⟨rfl, k9⟩
          go_wp2_with fail
          refine hK.out _ _ ⟨cell_step k9 h0, cell_step k9 h1, cell_step k9 h2, cell_step k9 h3, cell_step k9 h4, cell_step k9 h5, cell_step k9 h6, cell_step k9 h7, below_step h8 k9⟩ (fun hHeld => ?_)
          clear hK K h0 h1 h2 h3 h4 h5 h6 h7 h8
          try simp only [Act.put, List.setIfInBounds_toArray, List.set_cons_zero, List.set_cons_succ, List.getElem_toArray, List.getElem_cons_zero, List.getElem_cons_succ]
          refine wpAnyH_ready (rs := [29]) (by kernel_rfl) (by simp) ?_
          refine AllReadyH.cons rfl (fun K hK => ?_) AllReadyH.nil
          simp only [List.setIfInBounds_toArray, List.set_cons_zero, List.set_cons_succ, List.getElem_toArray, List.getElem_cons_zero, List.getElem_cons_succ]
          go_simp
          go_at_call 21
          obtain ⟨h0, h1, h2, h3, h4, h5, h6, h7, h8⟩ := hHeld
          refine (HSt.out _ (HB9.out _ h8)).mono ?_
          rintro e w_k10 ⟨f7, l7, rfl, oz, k10⟩
          have OZ := Lib.hid oz
          clear oz
          go_wp2_with fail
          refine hK.out _ _ ⟨cell_step k10 h0, cell_step k10 h1, cell_step k10 h2, cell_step k10 h3, cell_step k10 h4, cell_step k10 h5, cell_step k10 h6, cell_step k10 h7, below_step h8 k10⟩ (fun hHeld => ?_)
          clear hK K h0 h1 h2 h3 h4 h5 h6 h7 h8
          try simp only [Act.put, List.setIfInBounds_toArray, List.set_cons_zero, List.set_cons_succ, List.getElem_toArray, List.getElem_cons_zero, List.getElem_cons_succ]
          refine wpAnyH_ready (rs := [30]) (by kernel_rfl) (by simp) ?_
          refine AllReadyH.cons rfl (fun K hK => ?_) AllReadyH.nil
          simp only [List.setIfInBounds_toArray, List.set_cons_zero, List.set_cons_succ, List.getElem_toArray, List.getElem_cons_zero, List.getElem_cons_succ]
          go_simp
          go_at_call 14
          obtain ⟨h0, h1, h2, h3, h4, h5, h6, h7, h8⟩ := hHeld
          refine (HRaa.out _ _ _ _ _ (zeros za.length) (by rw [zeros_length]; omega) (.inr ((ints_own OSP.out).later h8)) (.inr ((IntsAt.of_owns (zeros_length _).symm OSM.out).later h8)) (HIa.out.later (HB9.out _ h8)) (.inr (IntsAt.of_owns (zeros_length _).symm OZ.out))).mono ?_
          rintro e w_k11 ⟨rfl, k11⟩
          have BE := below_step h8 k11
          go_wp2_with fail
          refine hK.out _ _ ⟨cell_step k11 h0, cell_step k11 h1, cell_step k11 h2, cell_step k11 h3, cell_step k11 h4, cell_step k11 h5, cell_step k11 h6, cell_step k11 h7, below_step h8 k11⟩ (fun hHeld => ?_)
          clear hK K h0 h1 h2 h3 h4 h5 h6 h7 h8
          try simp only [Act.put, List.setIfInBounds_toArray, List.set_cons_zero, List.set_cons_succ, List.getElem_toArray, List.getElem_cons_zero, List.getElem_cons_succ]
          refine wpAnyH_take (i := 31) (v := ?v20) rfl (by kernel_rfl) (by kernel_rfl) (by kernel_rfl) (fun _ _ _ h => h) (Or.inl ⟨by rfl, ?hy20⟩) (by assumption) ?rest20
          case hy20 => (intro w hSw; (try dsimp only at hSw); go_simp; (first | done | with_reducible rfl))
          simp only [Act.put, List.setIfInBounds_toArray, List.set_cons_zero, List.set_cons_succ, List.getElem_toArray, List.getElem_cons_zero, List.getElem_cons_succ]
          refine wpAnyH_take (i := 32) (v := ?v21) rfl (by kernel_rfl) (by kernel_rfl) (by kernel_rfl) (fun _ _ _ h => h) (Or.inl ⟨by rfl, ?hy21⟩) (by assumption) ?rest21
          case hy21 => (intro w hSw; (try dsimp only at hSw); go_simp; (first | done | with_reducible rfl))
          simp only [Act.put, List.setIfInBounds_toArray, List.set_cons_zero, List.set_cons_succ, List.getElem_toArray, List.getElem_cons_zero, List.getElem_cons_succ]
          refine wpAnyH_done (by kernel_rfl) ?_ _
          have BF := HB9.out _ BE
          go_wp2_with fail
          go_ret
          exact ⟨rfl, BF⟩
theorem walk_copies (pa ma pb mb : Value) (za ya zb yb : List Int) (w : World) (hza : za.length ≤ maxLen) (hya : ya.length ≤ maxLen) (hzb : zb.length ≤ maxLen) (hyb : yb.length ≤ maxLen) (ia : IntsW .i64 w.heap.size w pa za) (ja : IntsW .i64 w.heap.size w ma ya) (ib : IntsW .i64 w.heap.size w pb zb) (jb : IntsW .i64 w.heap.size w mb yb) :
    Calls Try.prog 7 #[.agg #[pa, ma], .agg #[pb, mb]] w fun e w' => e = .returned (.bool true) ∧ Below w.heap.size w w' := by
  cases hf : fewB [za, ya, []]
  · exact walk_copies_no1 pa ma pb mb za ya zb yb w hza hya hzb hyb ia ja ib jb hf
  cases hf2 : fewB [zb, yb, []]
  · exact walk_copies_no2 pa ma pb mb za ya zb yb w hza hya hzb hyb ia ja ib jb hf hf2
  have h1 := (fewB_true hf).2 za (by simp)
  have h2 := (fewB_true hf).2 ya (by simp)
  have h3 := (fewB_true hf2).2 zb (by simp)
  have h4 := (fewB_true hf2).2 yb (by simp)
  exact walk_copies_yes pa ma pb mb za ya zb yb w hza hya hzb hyb ia ja ib jb (by omega) (by omega) (by omega) (by omega) hf hf2
end Go.Proofs.Ytmffgbmjomaehaa
