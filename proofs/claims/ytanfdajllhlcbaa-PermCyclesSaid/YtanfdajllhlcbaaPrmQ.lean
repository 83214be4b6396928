/- Layer 6: Draws. -/
import Derived.Test.YtanfdajllhlcbaaPrmO
namespace Go.Proofs.Ytanfdajllhlcbaa
open Go.RowKit
set_option linter.unusedVariables false
theorem elemU : Elem Try.prog 22 46 (.int .u64 0) 1 8 := ⟨Try.underlying22, info_parts (by kernel_rfl), rfl, by decide⟩
def DrawsOk (p : List Int) (w : World) (e : Ending) (w' : World) : Prop :=
  ∃ v, e = .returned (.tuple #[v, .bool (validB p)]) ∧ w'.ownsRow w.heap.size 46 1 v (orL (validB p) (drawsL p)).length ((orL (validB p) (drawsL p)).map (Value.int .u64)) ∧ Below w.heap.size w w'
theorem drawsTo_snoc (p : List Int) (s : Nat) : (drawsTo p (s + 1)).map (Value.int .u64) = (drawsTo p s).map (Value.int .u64) ++ [.int .u64 (drawAt p s)] := by
  unfold drawsTo
  rw [List.range_succ, List.map_append, List.map_append]; rfl
theorem own_apart_lt {w : World} {e : TypeId} {size n N : Nat} {v : Value} {xs : List Value} {g c m : Nat} (h : w.ownsRow N e size v n xs) (hg : g < N) : (Value.slice (some ⟨g, 0, none⟩) m c).ownBlock = none ∨ (Value.slice (some ⟨g, 0, none⟩) m c).ownBlock ≠ v.ownBlock :=
  .inr fun e => by have := (h.lt g e.symm).1; omega
set_option maxHeartbeats 4000000 in
theorem draws_any (v : Value) (p : List Int) (hp : p.length ≤ 1048576) (zp : InW p) (w : World) (hv : IntsAt .i64 w.heap.size w v p) :
    Calls Try.prog 19 #[v] w (DrawsOk p w) := by
  obtain ⟨a, c, rfl⟩ := ints_value hv
  have HP := Lib.hid (fun W h => valid_any (.slice a p.length c) p hp zp W h)
  have HV := Lib.hid hv
  clear hv zp
  unfold DrawsOk
  cases h1 : validB p
  · rw [h1] at HP
    clear h1
    go_enter Try.func19, Try.ntmps19
    go_wp2_with fail
    refine (HP.out _ HV.out).mono ?_
    rintro e w1 ⟨rfl, b1⟩
    have B1 := Lib.hid b1
    clear b1
    go_wp2_with fail
    go_ret2
    exact ⟨_, rfl, World.ownsRow_nil _ _ _ _, B1.out⟩
  · rw [h1] at HP
    have HVB := Lib.hid h1
    clear h1
    have HI := Lib.hid (fun W => identity_any p.length hp W)
    go_enter Try.func19, Try.ntmps19
    go_wp2_with fail
    refine (HP.out _ HV.out).mono ?_
    rintro e w1 ⟨rfl, b1⟩
    have B1 := Lib.hid b1
    clear b1 HP
    go_wp2_with fail
    refine (HI.out _).mono ?_
    rintro e w2 ⟨rfl, o1, b2⟩
    have O1 := Lib.hid o1
    have B2 := Lib.hid (below_step B1.out b2)
    have hl1 : w1.heap.size < w2.heap.size := (o1.lt _ rfl).2
    have hs1 : w.heap.size ≤ w1.heap.size := B1.out.size
    clear o1 b2
    go_wp2_with fail
    refine (HI.out _).mono ?_
    rintro e w3 ⟨rfl, o2, b3⟩
    have O1 := Lib.hid (own_below O1.out b3)
    have O2 := Lib.hid o2
    have B3 := Lib.hid (below_step B2.out b3)
    have hl2 : w2.heap.size < w3.heap.size := (o2.lt _ rfl).2
    clear o2 b3 HI
    go_upto_region 4 with fail
    generalize w1.heap.size = g1 at *
    generalize w2.heap.size = g2 at *
    have al1 := (Below.refl w3.heap.size w3).alloc (Nat.le_refl _) (.cells #[.slice (some ⟨g1, 0, none⟩) p.length p.length] 32)
    have hz1 : (w3.alloc (.cells #[.slice (some ⟨g1, 0, none⟩) p.length p.length] 32)).heap.size = w3.heap.size + 1 := by simp
    have q1 := cell_new w3 #[.slice (some ⟨g1, 0, none⟩) p.length p.length] 32 0
    have q2 := cell_new (w3.alloc (.cells #[.slice (some ⟨g1, 0, none⟩) p.length p.length] 32)) #[.slice (some ⟨g2, 0, none⟩) p.length p.length] 32 0
    rw [hz1] at q2
    have al2 := (Below.refl (w3.alloc (.cells #[.slice (some ⟨g1, 0, none⟩) p.length p.length] 32)).heap.size (w3.alloc (.cells #[.slice (some ⟨g1, 0, none⟩) p.length p.length] 32))).alloc (Nat.le_refl _) (.cells #[.slice (some ⟨g2, 0, none⟩) p.length p.length] 32)
    have q1 := cell_step al2 (q1.trans rfl)
    have hz2 : ((w3.alloc (.cells #[.slice (some ⟨g1, 0, none⟩) p.length p.length] 32)).alloc (.cells #[.slice (some ⟨g2, 0, none⟩) p.length p.length] 32)).heap.size = w3.heap.size + 2 := by simp
    have al := below_step al1 al2
    have B4 := Lib.hid (below_step B3.out al)
    have O1 := Lib.hid (owns_mono hs1 (own_below O1.out al))
    have O2 := Lib.hid (owns_mono (show w.heap.size ≤ g2 by omega) (own_below O2.out al))
    have C1 := Lib.hid q1
    have C2 := Lib.hid (q2.trans rfl)
    clear q1 q2 al al1 al2 B3 hz1
    generalize (w3.alloc (.cells #[.slice (some ⟨g1, 0, none⟩) p.length p.length] 32)).alloc (.cells #[.slice (some ⟨g2, 0, none⟩) p.length p.length] 32) = w4 at *
    generalize hX : w3.heap.size = X at *
    have hX2 : X + 2 = w4.heap.size := hz2.symm
    have HD0 := Lib.hid (show w4.ownsRow (X + 2) 46 1 (.slice none 0 0) 0 ((drawsTo p 0).map (Value.int .u64)) from World.ownsRow_nil _ _ _ _)
    have O2 := Lib.hid (show w4.ownsRow w.heap.size 3 1 (.slice (some ⟨g2, 0, none⟩) p.length p.length) p.length ((invL (LD p 0)).map (Value.int .i64)) by show World.ownsRow _ _ _ _ _ _ ((invL (idL p.length)).map _); rw [inv_id]; exact O2.out)
    have O1 := Lib.hid (show w4.ownsRow w.heap.size 3 1 (.slice (some ⟨g1, 0, none⟩) p.length p.length) p.length ((LD p 0).map (Value.int .i64)) from O1.out)
    have hXw : X + 2 ≤ w4.heap.size := by omega
    clear hz2 hX hX2
    go_wp2_with fail
    go_loopw [7, 8, 9] (fun l i _ wr => ∃ s : Nat, s ≤ p.length - 1 ∧ i = .int .i64 ((p.length : Int) - 1 - s) ∧ Hid (wr.ownsRow (X + 2) 46 1 l s ((drawsTo p s).map (Value.int .u64))) ∧ Hid (wr.ownsRow w.heap.size 3 1 (.slice (some ⟨g1, 0, none⟩) p.length p.length) p.length ((LD p s).map (Value.int .i64))) ∧ Hid (wr.ownsRow w.heap.size 3 1 (.slice (some ⟨g2, 0, none⟩) p.length p.length) p.length ((invL (LD p s)).map (Value.int .i64))) ∧ Hid (wr.cell? ⟨X, 0, none⟩ = some (.slice (some ⟨g1, 0, none⟩) p.length p.length) ∧ wr.cell? ⟨X + 1, 0, none⟩ = some (.slice (some ⟨g2, 0, none⟩) p.length p.length)) ∧ Hid (Below w.heap.size w wr) ∧ X + 2 ≤ wr.heap.size) (fun _ i _ _ => (intOf i).toNat)
    case atStart => exact ⟨0, Nat.zero_le _, by go_num, HD0, O1, O2, Lib.hid ⟨C1.out, C2.out⟩, B4, hXw⟩
    case round =>
      obtain ⟨s, hs, rfl, HD, O1, O2, CC, HB, hXr⟩ := hrel
      by_cases hlt : s < p.length - 1
      · obtain ⟨m, hm1⟩ : ∃ m : Nat, (p.length : Int) - 1 - s = m := ⟨p.length - 1 - s, by omega⟩
        have hm2 : p.length - 1 - s = m := by omega
        have hm3 : m < p.length := by omega
        have hm4 : (0 : Int) < (m : Int) := by omega
        rw [hm1]
        obtain ⟨hPL, hTL⟩ := LD_inv HVB.out s hs
        obtain ⟨j, hd, hjm, hLj, hLs, hP2, hT2⟩ := draw_step HVB.out hlt hPL hTL
        rw [hm2] at hjm hLj hLs
        obtain ⟨x, hx, hxl⟩ := valid_at HVB.out hm3
        rw [hx] at hLj
        have hjl : j < (LD p s).length := by rw [LD_length]; omega
        have hix := invL_at hPL hjl hLj
        have hxi : x < (invL (LD p s)).length := by rw [invL_length, LD_length]; exact hxl
        have hyl : m < (LD p s).length := by rw [LD_length]; exact hm3
        obtain ⟨y, hy⟩ : ∃ y : Nat, (LD p s)[m]?.getD 0 = (y : Int) := by
          have := hPL.1 m hyl
          exact ⟨((LD p s)[m]?.getD 0).toNat, by rw [getD_of hyl]; omega⟩
        rcases HV.out.form with ⟨_, e0⟩ | ⟨b, off, cap, e0, hc, hb, hcs⟩
        · rw [e0] at hm3; cases hm3
        cases e0
        have cp := (HB.out.cell (p := ⟨b, off + m, none⟩) hb).trans (hcs m hm3)
        rw [hx] at cp
        have cb := CC.out.2
        have cl := (O2.out.cellAt x (by omega)).trans (by rw [List.getElem?_map, List.getElem?_eq_getElem hxi, ← getD_of hxi, hix]; rfl : _ = some (Value.int .i64 j))
        have hbl := World.block_lt_of_cell? _ _ cp
        have hgl := World.block_lt_of_cell? _ _ cl
        have hXl := World.block_lt_of_cell? _ _ cb
        have HE := Lib.hid (drawsTo_snoc p s)
        rw [hd] at HE
        have HX := Lib.hid (fun W (q1 q2 : Nat) h1 h2 h3 h4 => exchange2_any X (X + 1) g1 g2 p.length p.length p.length w.heap.size m j y x (LD p s) hPL (LD_length p s) hm3 (by omega) hy hLj hp W (by omega) (by omega) (by omega) (by omega) (by omega) h1 h2 h3 h4)
        have HLS := Lib.hid hLs
        have HM1 := Lib.hid hm1
        have HD2 := Lib.hid hd
        have wu : IntKind.u64.wrap (j : Int) = j := IntWalk.u64_in _ (by omega)
        have j0 : (0 : Int) ≤ (j : Int) := by omega
        have x1 : (x : Int) < (p.length : Int) := by omega
        have m1 : (m : Int) < (p.length : Int) := by omega
        have hHD := Lib.hid HD.out.drew
        have hO1 := Lib.hid O1.out.drew
        have hO2 := Lib.hid O2.out.drew
        have hCC := Lib.hid (show wr.drew.cell? ⟨X, 0, none⟩ = some (.slice (some ⟨g1, 0, none⟩) p.length p.length) ∧ wr.drew.cell? ⟨X + 1, 0, none⟩ = some (.slice (some ⟨g2, 0, none⟩) p.length p.length) from CC.out)
        have hBd := Lib.hid HB.out.drew
        have hXd : X + 2 ≤ wr.drew.heap.size := hXr
        clear hcs hx hix hLj hy hLs hP2 hT2 hPL hTL hm1 hm2 hd hjl hxi hyl
        go_wp2_with fail
        go_region
        clear cp cb cl
        generalize wr.drew = wd at *
        go_wp2_with (at_builtin; refine append_one elemU rfl _ _ rfl rfl rfl hHD.out rfl ?_ ?_ ?_ ?_ ?_; (simp [Value.oneCell']); (unfold maxLen; omega); omega; (exact hXd); intro v' w5 ho' hg'; have hg2 := Lib.hid (show wd.grownBy w5 u7.ownBlock from hg'); clear hg'; have HO5 := Lib.hid ho'; clear ho')
        have P1 := Lib.hid (hO1.out.kept hg2.out (own_apart_lt hHD.out (by omega)))
        have P2 := Lib.hid (hO2.out.kept hg2.out (own_apart_lt hHD.out (by omega)))
        have bX := (Below.refl (X + 2) wd).grown hg2.out hXd (fun k e => (hHD.out.lt k e).1)
        have PC := Lib.hid (And.intro ((bX.cell (p := ⟨X, 0, none⟩) (show X < X + 2 by omega)).trans hCC.out.1) ((bX.cell (p := ⟨X + 1, 0, none⟩) (show X + 1 < X + 2 by omega)).trans hCC.out.2))
        have PB := Lib.hid (hBd.out.trans (bX.mono (by omega)))
        have hX5 : X + 2 ≤ w5.heap.size := Nat.le_trans hXd bX.size
        clear bX hO1 hO2 hCC hBd
        refine (HX.out _ 0 0 PC.out.1 PC.out.2 P1.out P2.out).mono ?_
        rintro e w6 ⟨rfl, W1, gr1, gr2, r1, r2⟩
        have hs51 := gr1.size
        have hs16 := gr2.size
        have R1 := Lib.hid (show w6.ownsRow w.heap.size 3 1 (.slice (some ⟨g1, 0, none⟩) p.length p.length) p.length ((LD p (s + 1)).map (Value.int .i64)) from HLS.out ▸ r1)
        have R2 := Lib.hid (show w6.ownsRow w.heap.size 3 1 (.slice (some ⟨g2, 0, none⟩) p.length p.length) p.length ((invL (LD p (s + 1))).map (Value.int .i64)) from HLS.out ▸ r2)
        have RD := Lib.hid (show w6.ownsRow (X + 2) 46 1 v' (s + 1) ((drawsTo p (s + 1)).map (Value.int .u64)) from HE.out ▸ row_other (row_other HO5.out gr1 (fun k e => by cases e; omega)) gr2 (fun k e => by cases e; omega))
        have k1 := (grown_cell (o := 0) gr1 (show X < w5.heap.size by omega) (show X ≠ g1 by omega)).trans PC.out.1
        have k2 := (grown_cell (o := 0) gr1 (show X + 1 < w5.heap.size by omega) (show X + 1 ≠ g1 by omega)).trans PC.out.2
        have RC := Lib.hid (And.intro ((grown_cell (o := 0) gr2 (show X < W1.heap.size by omega) (show X ≠ g2 by omega)).trans k1) ((grown_cell (o := 0) gr2 (show X + 1 < W1.heap.size by omega) (show X + 1 ≠ g2 by omega)).trans k2))
        have RB1 := PB.out.grown gr1 PB.out.size (fun k e => by cases e; omega)
        have RB := Lib.hid (RB1.grown gr2 RB1.size (fun k e => by cases e; omega))
        have hX6 : X + 2 ≤ w6.heap.size := by omega
        clear r1 r2 k1 k2 RB1 gr1 gr2 hs51 hs16
        go_wp2_with fail
        go_roundw
        case rel => exact ⟨s + 1, by omega, by have := HM1.out; rw [show (p.length : Int) - 1 - ((s + 1 : Nat) : Int) = (m : Int) - 1 by omega], RD, R1, R2, RC, RB, hX6⟩
        case measure => simp [intOf]; omega
      · have hse : s = p.length - 1 := by omega
        subst hse
        go_wp2_with fail
        go_ret2
        exact ⟨_, rfl, by show World.ownsRow _ _ _ _ _ (drawsTo p (p.length - 1)).length _; rw [drawsTo_length]; exact owns_mono (by omega) HD.out, HB.out⟩
end Go.Proofs.Ytanfdajllhlcbaa
