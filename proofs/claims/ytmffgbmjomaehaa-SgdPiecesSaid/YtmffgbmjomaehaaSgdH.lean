/- The walk of SgdPieces. -/
import Derived.Test.YtmffgbmjomaehaaSgdG
import Derived.Test.YtmffgbmjomaehaaSgdF
import Derived.Test.YtmffgbmjomaehaaPartC
namespace Go.Proofs.Ytmffgbmjomaehaa
open Go.RowKit
set_option linter.unusedVariables false
theorem bl_cnt (n s : Int) (hn : 0 ≤ n) (hs : 1 ≤ s) : bl n s (cntB n s).toNat = n := by
  by_cases h : n < 1
  · have e : n = 0 := by omega
    subst e
    unfold bl
    rw [cntB_out 0 s (by omega)]
    simp
  · have hc := (cntB_range n s).1
    rw [bl_ge]
    rw [Int.toNat_of_nonneg hc, cntB_in n s (by omega) hs]
    have := Int.lt_ediv_add_one_mul_self (n - 1) (show 0 < s by omega)
    omega
theorem bl_in (n s : Int) (i : Nat) (hn : 0 ≤ n) (hs : 1 ≤ s) : 0 ≤ bl n s i ∧ bl n s i ≤ n ∧ bl n s i ≤ bl n s (i + 1) := by
  refine ⟨?_, ?_, bl_mono n s i (by omega)⟩
  · unfold bl
    have : 0 ≤ (i : Int) * s := Int.mul_nonneg (by omega) (by omega)
    omega
  · unfold bl
    omega
theorem blocks_at (n s : Int) (i : Nat) (h : i < (cntB n s).toNat) : (rcells (blocksR n s))[i * 2]? = some (.int .i64 (bl n s i)) ∧ (rcells (blocksR n s))[i * 2 + 1]? = some (.int .i64 (bl n s (i + 1))) := by
  have hl : i < (blocksR n s).length := by unfold blocksR; rw [blTo_length]; exact h
  have X := rcells_at (blocksR n s) i hl
  have e0 : (blocksR n s)[i]? = some (bl n s i, bl n s (i + 1)) := by
    unfold blocksR blTo
    rw [List.getElem?_map, List.getElem?_range h]
    rfl
  have e : (blocksR n s)[i] = (bl n s i, bl n s (i + 1)) := by
    rw [List.getElem?_eq_getElem hl] at e0
    exact Option.some.inj e0
  rw [e] at X
  exact X
theorem zeros_word (n : Nat) : ∀ z ∈ zeros n, Word z := by
  intro z hz
  unfold zeros at hz
  rw [List.mem_replicate] at hz
  rw [hz.2]
  unfold Word
  omega
theorem half_word (xs ys : List Int) (c : Nat) (hx : ∀ z ∈ xs, Word z) (hy : ∀ z ∈ ys, Word z) : ∀ z ∈ halfP xs ys c, Word z := by
  intro z hz
  unfold halfP at hz
  rcases List.mem_append.1 hz with h | h
  · exact hx z (List.mem_of_mem_take h)
  · exact hy z (List.mem_of_mem_drop h)
theorem half_step (zp ns ms zm : List Int) (a b : Nat) (rate mom q : Int) (hab : a ≤ b) (hb : b ≤ zp.length) (hm : zm.length = zp.length) (hms : ms = nextM zm zp mom q) (hns : ns = nextP zp ms rate q) :
    applyOk (halfP zp ns b) (halfP zm ms b) (subL2 zp a b) (a : Int) (b : Int) = true ∧ apPr (halfP zp ns b) (halfP zm ms b) (subL2 zp a b) (a : Int) (b : Int) rate mom q = halfP zp ns a ∧ apMr (halfP zp ns b) (halfP zm ms b) (subL2 zp a b) (a : Int) (b : Int) mom q = halfP zm ms a := by
  have hml : ms.length = zp.length := by rw [hms]; exact nextM_length _ _ _ _ hm
  have hnl : ns.length = zp.length := by rw [hns]; exact nextP_length _ _ _ _ hml.symm
  have e1 := halfP_length zp ns b hnl.symm
  have e2 := halfP_length zm ms b (by omega)
  have ok : applyOk (halfP zp ns b) (halfP zm ms b) (subL2 zp a b) (a : Int) (b : Int) = true := by
    unfold applyOk
    rw [decide_eq_true_iff, e1, e2, subL2_length _ _ _ hb]
    omega
  refine ⟨ok, ?_, ?_⟩
  · unfold apPr
    rw [ok, if_pos rfl]
    unfold apP
    rw [Int.toNat_natCast, Int.toNat_natCast, halfP_sub zp ns a b hb, halfP_sub zm ms a b (by omega), sub_nextM, ← hms, sub_nextP, ← hns]
    exact halfP_splice zp ns a b hab hb hnl.symm
  · unfold apMr
    rw [ok, if_pos rfl]
    unfold apM
    rw [Int.toNat_natCast, Int.toNat_natCast, halfP_sub zm ms a b (by omega), sub_nextM, ← hms]
    exact halfP_splice zm ms a b hab (by omega) (by omega)
theorem walk_pieces_no (rate mom q s8 : Int) (p : Value) (zp : List Int) (hr : Word rate) (ho : Word mom) (wp_ : ∀ z ∈ zp, Word z) (hs0 : 0 ≤ s8) (hs1 : s8 ≤ 255) (w : World) (hp : zp.length ≤ maxLen) (ip : IntsAt .i64 w.heap.size w p zp) (hf : fewB [zp] = false) :
    Calls Try.prog 5 #[.agg #[.int .i64 rate, .int .i64 mom, .int .i64 q], p, .int .u8 s8] w fun e w' => e = .returned (.bool true) ∧ Below w.heap.size w w' := by
  have BA := (Below.refl w.heap.size w).alloc (Nat.le_refl _) (.cells #[.int .i64 rate, .int .i64 mom, .int .i64 q] 23)
  have r012 := cells_three w (.int .i64 rate) (.int .i64 mom) (.int .i64 q) 23
  obtain ⟨a1, c1, rfl⟩ := ints_value ip
  have hzA : (w.alloc (.cells #[.int .i64 rate, .int .i64 mom, .int .i64 q] 23)).heap.size = w.heap.size + 1 := by simp
  have HF := Lib.hid (few_one (.slice a1 zp.length c1) zp hp (w.alloc (.cells #[.int .i64 rate, .int .i64 mom, .int .i64 q] 23)) (ip.later BA))
  rw [hzA] at HF
  have BB := (Below.refl (w.alloc (.cells #[.int .i64 rate, .int .i64 mom, .int .i64 q] 23)).heap.size (w.alloc (.cells #[.int .i64 rate, .int .i64 mom, .int .i64 q] 23))).alloc (Nat.le_refl _) (.cells #[.slice a1 zp.length c1] 24)
  have r0 := cell_step BB r012.1
  have r1 := cell_step BB r012.2.1
  have r2 := cell_step BB r012.2.2
  have AL := BA.trans (BB.mono (by omega))
  have hz1 : ((w.alloc (.cells #[.int .i64 rate, .int .i64 mom, .int .i64 q] 23)).alloc (.cells #[.slice a1 zp.length c1] 24)).heap.size = w.heap.size + 2 := by simp
  rw [hf] at HF
  clear ip hf BA BB r012 r0 r1 r2
  go_enter Try.func5, Try.ntmps5
  go_wp2_with fail
  refine HF.out.mono ?_
  rintro e w1 ⟨rfl, rfl⟩
  generalize ((w.alloc (.cells #[.int .i64 rate, .int .i64 mom, .int .i64 q] 23)).alloc (.cells #[.slice a1 zp.length c1] 24)) = W1 at *
  go_wp2_with fail
  refine (alive_any _).mono ?_
  rintro e w2 ⟨rfl, b2⟩
  have B2 := below_step AL b2
  go_wp2_with fail
  go_ret
  exact ⟨rfl, B2⟩
set_option maxHeartbeats 8000000 in
theorem walk_pieces_yes (rate mom q s8 : Int) (p : Value) (zp : List Int) (hr : Word rate) (ho : Word mom) (wp_ : ∀ z ∈ zp, Word z) (hs0 : 0 ≤ s8) (hs1 : s8 ≤ 255) (w : World) (hp : zp.length ≤ maxLen) (ip : IntsAt .i64 w.heap.size w p zp) (hl : zp.length ≤ 1500) (hf : fewB [zp] = true) :
    Calls Try.prog 5 #[.agg #[.int .i64 rate, .int .i64 mom, .int .i64 q], p, .int .u8 s8] w fun e w' => e = .returned (.bool true) ∧ Below w.heap.size w w' := by
  have BA := (Below.refl w.heap.size w).alloc (Nat.le_refl _) (.cells #[.int .i64 rate, .int .i64 mom, .int .i64 q] 23)
  have r012 := cells_three w (.int .i64 rate) (.int .i64 mom) (.int .i64 q) 23
  obtain ⟨a1, c1, rfl⟩ := ints_value ip
  have hzA : (w.alloc (.cells #[.int .i64 rate, .int .i64 mom, .int .i64 q] 23)).heap.size = w.heap.size + 1 := by simp
  have HF := Lib.hid (few_one (.slice a1 zp.length c1) zp hp (w.alloc (.cells #[.int .i64 rate, .int .i64 mom, .int .i64 q] 23)) (ip.later BA))
  rw [hzA] at HF
  have BB := (Below.refl (w.alloc (.cells #[.int .i64 rate, .int .i64 mom, .int .i64 q] 23)).heap.size (w.alloc (.cells #[.int .i64 rate, .int .i64 mom, .int .i64 q] 23))).alloc (Nat.le_refl _) (.cells #[.slice a1 zp.length c1] 24)
  have r0 := cell_step BB r012.1
  have r1 := cell_step BB r012.2.1
  have r2 := cell_step BB r012.2.2
  have AL := BA.trans (BB.mono (by omega))
  have hz1 : ((w.alloc (.cells #[.int .i64 rate, .int .i64 mom, .int .i64 q] 23)).alloc (.cells #[.slice a1 zp.length c1] 24)).heap.size = w.heap.size + 2 := by simp
  rw [hf] at HF
  have HS := Lib.hid (fun W (b : Below w.heap.size w W) => start13_apart (.slice a1 zp.length c1) zp (by omega) W (.inr (ip.later b)))
  have HC := Lib.hid (fun W (b : Below w.heap.size w W) => refClone_any (.slice a1 zp.length c1) zp (by omega) w.heap.size W (.inr (ip.below b)))
  have HT := Lib.hid (fun W (b : Below w.heap.size w W) => refStart13_any (.slice a1 zp.length c1) zp (by omega) W (.inr (ip.later b)))
  have HRN := Lib.hid (fun W (b : Below w.heap.size w W) m zm hm wm_ im => refNext_any rate mom q hr ho (.slice a1 zp.length c1) m (.slice a1 zp.length c1) zp zm zp wm_ (by omega) W (.inr (ip.later b)) im (.inr (ip.later b)))
  have HIP := Lib.hid ip
  clear ip hf BA BB r012
  go_enter Try.func5, Try.ntmps5
  go_wp2_with fail
  refine HF.out.mono ?_
  rintro e w1 ⟨rfl, rfl⟩
  generalize ((w.alloc (.cells #[.int .i64 rate, .int .i64 mom, .int .i64 q] 23)).alloc (.cells #[.slice a1 zp.length c1] 24)) = W1 at *
  go_wp2_with fail
  refine (HS.out _ AL).mono ?_
  rintro e w3 ⟨vp, vm, rfl, op, om, pm, b3⟩
  rw [zeros_length] at om
  have B3 := below_step AL b3
  obtain ⟨ap, cp, rfl⟩ := own_value op
  obtain ⟨am, cm, rfl⟩ := own_value om
  have OPl : ∀ j, (Value.slice ap zp.length cp).ownBlock = some j → W1.heap.size ≤ j ∧ j < w3.heap.size := fun j e => op.lt j e
  have OMl : ∀ j, (Value.slice am zp.length cm).ownBlock = some j → W1.heap.size ≤ j ∧ j < w3.heap.size := fun j e => om.lt j e
  have al3 := (Below.refl w3.heap.size w3).alloc (Nat.le_refl _) (.cells #[.slice ap zp.length cp, .slice am zp.length cm] 31)
  have u01 := cells_two w3 (.slice ap zp.length cp) (.slice am zp.length cm) 31
  have x3 := below_step b3 al3
  have r0 := cell_step x3 r0
  have r1 := cell_step x3 r1
  have r2 := cell_step x3 r2
  obtain ⟨u0, u1⟩ := u01
  have B4 := below_step B3 al3
  have hz4 : (w3.alloc (.cells #[.slice ap zp.length cp, .slice am zp.length cm] 31)).heap.size = w3.heap.size + 1 := by simp
  have OP := Lib.hid (own_below op al3)
  have OM := Lib.hid (own_below om al3)
  clear op om
  go_wp2_with fail
  generalize w3.alloc (.cells #[.slice ap zp.length cp, .slice am zp.length cm] 31) = W4 at *
  refine (HC.out _ B4).mono ?_
  rintro e w5 ⟨vg, rfl, og, b5⟩
  obtain ⟨ag, cg, rfl⟩ := own_value og
  have r0 := cell_step b5 r0
  have r1 := cell_step b5 r1
  have r2 := cell_step b5 r2
  have u0 := cell_step b5 u0
  have u1 := cell_step b5 u1
  have B5 := below_step B4 b5
  have OP := Lib.hid (own_below OP.out b5)
  have OM := Lib.hid (own_below OM.out b5)
  have OG := Lib.hid og
  have HNX := Lib.hid (next_any rate mom q hr ho (.slice ap zp.length cp) (.slice am zp.length cm) (.slice ag zp.length cg) zp (zeros zp.length) zp wp_ (zeros_word _) (by omega) (by rw [zeros_length]; omega) (by omega) w5 (ints_own OP.out) (IntsAt.of_owns (zeros_length _).symm OM.out) (.inr (ints_own OG.out)))
  clear og
  go_wp2_with fail
  refine HNX.out.mono ?_
  intro e w6 h6
  unfold NextIs at h6
  rw [if_pos (by unfold nextOk; simp [zeros_length])] at h6
  obtain ⟨v, rfl, ⟨vn, vo, rfl, onp, onm⟩, b6⟩ := h6
  obtain ⟨ms, hms⟩ : ∃ ms, ms = nextM (zeros zp.length) zp mom q := ⟨_, rfl⟩
  rw [← hms] at onp onm
  obtain ⟨ns, hns⟩ : ∃ ns, ns = nextP zp ms rate q := ⟨_, rfl⟩
  rw [← hns] at onp
  have hml : ms.length = zp.length := by rw [hms]; exact nextM_length _ _ _ _ (zeros_length _)
  have hnl : ns.length = zp.length := by rw [hns]; exact nextP_length _ _ _ _ hml.symm
  rw [hnl] at onp
  rw [hml] at onm
  have HMS := Lib.hid hms
  have HNS := Lib.hid hns
  have HML := Lib.hid hml
  have HNL := Lib.hid hnl
  clear hms hns hml hnl
  obtain ⟨an, cn, rfl⟩ := own_value onp
  obtain ⟨ao, co, rfl⟩ := own_value onm
  have al6 := (Below.refl w6.heap.size w6).alloc (Nat.le_refl _) (.cells #[.slice an zp.length cn, .slice ao zp.length co] 31)
  have v01 := cells_two w6 (.slice an zp.length cn) (.slice ao zp.length co) 31
  have x6 := below_step b6 al6
  have r0 := cell_step x6 r0
  have r1 := cell_step x6 r1
  have r2 := cell_step x6 r2
  have u0 := cell_step x6 u0
  have u1 := cell_step x6 u1
  obtain ⟨v0, v1⟩ := v01
  have BB := below_step B5 x6
  have hzB : (w6.alloc (.cells #[.slice an zp.length cn, .slice ao zp.length co] 31)).heap.size = w6.heap.size + 1 := by simp
  have OP := Lib.hid (own_below OP.out x6)
  have OM := Lib.hid (own_below OM.out x6)
  have OG := Lib.hid (own_below OG.out x6)
  have ON := Lib.hid (own_below onp al6)
  have OO := Lib.hid (own_below onm al6)
  have hz5 := b5.size
  have hz6 := b6.size
  clear onp onm HNX
  go_wp2_with fail
  generalize w6.alloc (.cells #[.slice an zp.length cn, .slice ao zp.length co] 31) = WB at *
  have HBk := Lib.hid (fun sz (h0 : 1 ≤ sz) (h1 : sz ≤ 9) => refBlocks_any (zp.length : Int) sz (by omega) (by omega) (by omega) (by omega) WB)
  have hsz0 : 1 ≤ (1 + s8 % 9) ∧ (1 + s8 % 9) ≤ 9 := by omega
  refine (HBk.out _ hsz0.1 hsz0.2).mono ?_
  rintro e w7 ⟨vl, rfl, ol, b7⟩
  obtain ⟨sz, hsz⟩ : ∃ sz : Int, sz = (1 + s8 % 9) := ⟨_, rfl⟩
  rw [← hsz] at ol hsz0
  have hlen : (blocksR (zp.length : Int) sz).length = (cntB (zp.length : Int) sz).toNat := by unfold blocksR; rw [blTo_length]
  rw [hlen] at ol
  obtain ⟨cnt, hcnt⟩ : ∃ cnt : Nat, cnt = (cntB (zp.length : Int) sz).toNat := ⟨_, rfl⟩
  rw [← hcnt] at ol
  obtain ⟨al, cl, rfl⟩ := own_value ol
  have hbn := bl_cnt (zp.length : Int) sz (by omega) hsz0.1
  rw [← hcnt] at hbn
  have HBI := Lib.hid (fun i => bl_in (zp.length : Int) sz i (by omega) hsz0.1)
  have HBA := Lib.hid (fun i (h : i < cnt) => blocks_at (zp.length : Int) sz i (by rw [← hcnt]; exact h))
  have B7 := below_step BB b7
  have r0 := cell_step b7 r0
  have r1 := cell_step b7 r1
  have r2 := cell_step b7 r2
  have u0 := cell_step b7 u0
  have u1 := cell_step b7 u1
  have v0 := cell_step b7 v0
  have v1 := cell_step b7 v1
  have OP := own_below OP.out b7
  have OM := own_below OM.out b7
  have OG := own_below OG.out b7
  have ON := own_below ON.out b7
  have OO := own_below OO.out b7
  have OL := ol
  have hz7 := b7.size
  have hcn : cnt ≤ 1500 := by
    have h1 := cntB_range (zp.length : Int) sz
    omega
  obtain ⟨FF, hFF⟩ : ∃ FF : World → Nat → Prop, FF = fun W c => (W.cell? ⟨w.heap.size, 0, none⟩ = some (.int .i64 rate) ∧ W.cell? ⟨w.heap.size, 1, none⟩ = some (.int .i64 mom) ∧ W.cell? ⟨w.heap.size, 2, none⟩ = some (.int .i64 q) ∧ W.cell? ⟨w3.heap.size, 0, none⟩ = some (.slice ap zp.length cp) ∧ W.cell? ⟨w3.heap.size, 1, none⟩ = some (.slice am zp.length cm) ∧ W.cell? ⟨w6.heap.size, 0, none⟩ = some (.slice an zp.length cn) ∧ W.cell? ⟨w6.heap.size, 1, none⟩ = some (.slice ao zp.length co) ∧ W.ownsRow WB.heap.size 43 2 (.slice al cnt cl) cnt (rcells (blocksR (zp.length : Int) sz)) ∧ W.ownsRow W4.heap.size 2 1 (.slice ag zp.length cg) zp.length (zp.map (Value.int .i64)) ∧ W.ownsRow w5.heap.size 2 1 (.slice an zp.length cn) zp.length (ns.map (Value.int .i64)) ∧ W.ownsRow w5.heap.size 2 1 (.slice ao zp.length co) zp.length (ms.map (Value.int .i64)) ∧ W.ownsRow W1.heap.size 2 1 (.slice ap zp.length cp) zp.length ((halfP zp ns c).map (Value.int .i64)) ∧ W.ownsRow W1.heap.size 2 1 (.slice am zp.length cm) zp.length ((halfP (zeros zp.length) ms c).map (Value.int .i64)) ∧ Below w.heap.size w W) := ⟨_, rfl⟩
  have F0 : FF w7 (bl (zp.length : Int) sz cnt).toNat := by
    rw [hFF]
    have e : (bl (zp.length : Int) sz cnt).toNat = zp.length := by rw [hbn]; omega
    have e1 : halfP zp ns zp.length = zp := halfP_all zp ns HNL.out.symm
    have e2 : halfP (zeros zp.length) ms zp.length = zeros zp.length := by
      have h := halfP_all (zeros zp.length) ms (by rw [zeros_length]; exact HML.out.symm)
      rw [zeros_length] at h
      exact h
    show _ ∧ _
    rw [e, e1, e2]
    exact ⟨r0, r1, r2, u0, u1, v0, v1, OL, OG, ON, OO, OP, OM, B7⟩
  have HF0 := Lib.hid F0
  have HFF := Lib.hid hFF
  have HCN := Lib.hid hcnt
  have HSZ := Lib.hid hsz
  have hw2 : w.heap.size + 2 ≤ W1.heap.size := by omega
  have hw3 := B3.size
  have hw1 : W1.heap.size ≤ w3.heap.size := b3.size
  clear hlen hcnt hsz hsz0 F0 hFF OP OM OG ON OO OL ol b7 B7 BB B5 B4 B3 b6 al6 x6 b5 al3 x3 b3 r0 r1 r2 u0 u1 v0 v1
  go_wp2_with fail
  go_loopw [12] (fun i wr => ∃ j : Nat, j ≤ cnt ∧ i = .int .i64 ((j : Int) - 1) ∧ Hid (FF wr (bl (zp.length : Int) sz j).toNat)) (fun i _ => (intOf i + 1).toNat)
  case atStart => exact ⟨cnt, Nat.le_refl _, rfl, HF0⟩
  case round =>
    obtain ⟨j, hj, rfl, HFj⟩ := hrel
    rcases j with _ | i
    · skip
      rw [show ((0 : Nat) : Int) - 1 = -1 from rfl]
      have hrel := HFj.out
      rw [HFF.out] at hrel
      obtain ⟨r0, r1, r2, u0, u1, v0, v1, OL, OG, ON, OO, OP, OM, BW⟩ := hrel
      rw [show (bl (zp.length : Int) sz 0).toNat = 0 from by rw [bl_zero _ _ (by omega)]; rfl, halfP_none] at OP OM
      have HNR := Lib.hid (fun W (b : Below w.heap.size w W) az cz (iz : IntsW .i64 W.heap.size W (.slice az zp.length cz) (zeros zp.length)) => (show Calls Try.prog 13 #[.agg #[.int .i64 rate, .int .i64 mom, .int .i64 q], .agg #[.slice a1 zp.length c1, .slice az zp.length cz], .slice a1 zp.length c1] W (fun e w' => ∃ mn kn mo ko, e = .returned (.tuple #[.agg #[.slice mn zp.length kn, .slice mo zp.length ko], .bool true]) ∧ w'.ownsRow W.heap.size 2 1 (.slice mn zp.length kn) zp.length (ns.map (Value.int .i64)) ∧ w'.ownsRow W.heap.size 2 1 (.slice mo zp.length ko) zp.length (ms.map (Value.int .i64)) ∧ Below W.heap.size W w') from by
        refine (HRN.out W b (.slice az zp.length cz) (zeros zp.length) (by omega) (zeros_word _) iz).mono ?_
        intro e w' hn
        unfold NextIs at hn
        rw [if_pos (by unfold nextOk; simp [zeros_length]), ← HMS.out, ← HNS.out] at hn
        obtain ⟨v, rfl, ⟨vp, vm, rfl, op, om⟩, b5⟩ := hn
        rw [HNL.out] at op
        rw [HML.out] at om
        obtain ⟨mn, kn, rfl⟩ := own_value op
        obtain ⟨mo, ko, rfl⟩ := own_value om
        exact ⟨mn, kn, mo, ko, rfl, op, om, b5⟩))
      have HOWN := Lib.hid (And.intro OP (And.intro OM (And.intro ON OO)))
      clear OP OM ON OO OL OG
      go_wp2_with fail
      refine (fun (TAIL : Hid (?G : Prop)) => ?main) (Lib.hid ?tail)
      case main =>
        have B00 := (Below.refl wr.heap.size wr).drew
        have zd : wr.drew.heap.size = wr.heap.size := rfl
        refine wp_region_held_drew (S := fun w' => w'.cell? ⟨w.heap.size, 0, none⟩ = some (.int .i64 rate) ∧ w'.cell? ⟨w.heap.size, 1, none⟩ = some (.int .i64 mom) ∧ w'.cell? ⟨w.heap.size, 2, none⟩ = some (.int .i64 q) ∧ Below wr.heap.size wr w') (by kernel_rfl) ?_ (fun hHeld => ?_)
        · exact ⟨cell_step B00 r0, cell_step B00 r1, cell_step B00 r2, B00⟩
        refine wpAnyH_take (i := 0) (v := ?v1) rfl (by kernel_rfl) (by kernel_rfl) (by kernel_rfl) (fun _ _ _ h => h) (Or.inl ⟨by rfl, ?hy1⟩) (by assumption) ?rest1
        case hy1 => (intro w hSw; (try dsimp only at hSw); go_simp; (first | done | with_reducible rfl))
        simp only [Act.put, List.setIfInBounds_toArray, List.set_cons_zero, List.set_cons_succ, List.getElem_toArray, List.getElem_cons_zero]
        refine wpAnyH_take (i := 1) (v := ?v2) rfl (by kernel_rfl) (by kernel_rfl) (by kernel_rfl) (fun _ _ _ h => h) (Or.inl ⟨by rfl, ?hy2⟩) (by assumption) ?rest2
        case hy2 => (intro w hSw; (try dsimp only at hSw); go_simp; (first | done | with_reducible rfl))
        simp only [Act.put, List.setIfInBounds_toArray, List.set_cons_zero, List.set_cons_succ, List.getElem_toArray, List.getElem_cons_zero, List.getElem_cons_succ]
        refine wpAnyH_take (i := 3) (v := ?v3) rfl (by kernel_rfl) (by kernel_rfl) (by kernel_rfl) (fun _ _ _ h => h) (Or.inl ⟨by rfl, ?hy3⟩) (by assumption) ?rest3
        case hy3 => (intro w hSw; (try dsimp only at hSw); go_simp; (first | done | with_reducible rfl))
        simp only [Act.put, List.setIfInBounds_toArray, List.set_cons_zero, List.set_cons_succ, List.getElem_toArray, List.getElem_cons_zero, List.getElem_cons_succ]
        refine wpAnyH_ready (rs := [2, 8]) (by kernel_rfl) (by simp) ?_
        refine AllReadyH.cons rfl (fun K hK => ?_) ?_
        · try simp only [Act.put, List.setIfInBounds_toArray, List.set_cons_zero, List.set_cons_succ, List.getElem_toArray, List.getElem_cons_zero, List.getElem_cons_succ]
          go_simp
          go_at_call 21
          refine (HT.out _ (BW.trans (B00.mono (by have := BW.size; omega)))).mono ?_
          rintro e w7 ⟨az, cz, rfl, oz, b7⟩
          have B7 := B00.trans (b7.mono B00.size)
          have OZ := Lib.hid oz
          clear oz
          go_wp2_with fail
          refine hK.out _ _ ⟨cell_step B7 r0, cell_step B7 r1, cell_step B7 r2, B7⟩ (fun hHeld => ?_)
          clear hK K
          try simp only [Act.put, List.setIfInBounds_toArray, List.set_cons_zero, List.set_cons_succ, List.getElem_toArray, List.getElem_cons_zero, List.getElem_cons_succ]
          refine wpAnyH_ready (rs := [4, 8]) (by kernel_rfl) (by simp) ?_
          refine AllReadyH.cons rfl (fun K hK => ?_) ?_
          · try simp only [Act.put, List.setIfInBounds_toArray, List.set_cons_zero, List.set_cons_succ, List.getElem_toArray, List.getElem_cons_zero, List.getElem_cons_succ]
            go_simp
            go_at_call 13
            refine (HNR.out _ (BW.trans (B7.mono (by have := BW.size; omega))) az cz (.inr (IntsAt.of_owns (zeros_length _).symm OZ.out))).mono ?_
            rintro e w8 ⟨mn, kn, mo, ko, rfl, omn, omo, b8⟩
            have B8 := B7.trans (b8.mono B7.size)
            go_wp2_with fail
            refine hK.out _ _ ⟨cell_step B8 r0, cell_step B8 r1, cell_step B8 r2, B8⟩ (fun hHeld => ?_)
            clear hK K
            try simp only [Act.put, List.setIfInBounds_toArray, List.set_cons_zero, List.set_cons_succ, List.getElem_toArray, List.getElem_cons_zero, List.getElem_cons_succ]
            refine wpAnyH_take (i := 5) (v := ?v4) rfl (by kernel_rfl) (by kernel_rfl) (by kernel_rfl) (fun _ _ _ h => h) (Or.inl ⟨by rfl, ?hy4⟩) (by assumption) ?rest4
            case hy4 => (intro w hSw; (try dsimp only at hSw); go_simp; (first | done | with_reducible rfl))
            simp only [Act.put, List.setIfInBounds_toArray, List.set_cons_zero, List.set_cons_succ, List.getElem_toArray, List.getElem_cons_zero, List.getElem_cons_succ]
            refine wpAnyH_take (i := 6) (v := ?v5) rfl (by kernel_rfl) (by kernel_rfl) (by kernel_rfl) (fun _ _ _ h => h) (Or.inl ⟨by rfl, ?hy5⟩) (by assumption) ?rest5
            case hy5 => (intro w hSw; (try dsimp only at hSw); go_simp; (first | done | with_reducible rfl))
            simp only [Act.put, List.setIfInBounds_toArray, List.set_cons_zero, List.set_cons_succ, List.getElem_toArray, List.getElem_cons_zero, List.getElem_cons_succ]
            refine wpAnyH_take (i := 7) (v := ?v6) rfl (by kernel_rfl) (by kernel_rfl) (by kernel_rfl) (fun _ _ _ h => h) (Or.inl ⟨by rfl, ?hy6⟩) (by assumption) ?rest6
            case hy6 => (intro w hSw; (try dsimp only at hSw); go_simp; (first | done | with_reducible rfl))
            simp only [Act.put, List.setIfInBounds_toArray, List.set_cons_zero, List.set_cons_succ, List.getElem_toArray, List.getElem_cons_zero, List.getElem_cons_succ]
            refine wpAnyH_ready (rs := [8]) (by kernel_rfl) (by simp) ?_
            refine AllReadyH.cons rfl (fun K hK => ?_) AllReadyH.nil
            simp only [List.getElem_toArray, List.getElem_cons_zero, List.getElem_cons_succ]
            go_simp
            have bU := (Below.refl w8.heap.size w8).alloc (Nat.le_refl _) (.cells #[.slice none 0 0, .slice none 0 0] 26)
            have hU := cells_two w8 (.slice none 0 0) (.slice none 0 0) 26
            have fU := World.frozen?_alloc_new w8 #[.slice none 0 0, .slice none 0 0] 26
            have hzU : (w8.alloc (.cells #[.slice none 0 0, .slice none 0 0] 26)).heap.size = w8.heap.size + 1 := by simp
            have BU := B8.trans (bU.mono B8.size)
            have y0 := hU.1
            have y1 := hU.2
            have f0 := fU 0
            have f1 := fU 1
            refine hK.out _ _ ⟨cell_step BU r0, cell_step BU r1, cell_step BU r2, BU⟩ (fun hHeld => ?_)
            clear hK K hU fU
            try simp only [Act.put, List.setIfInBounds_toArray, List.set_cons_zero, List.set_cons_succ, List.getElem_toArray, List.getElem_cons_zero, List.getElem_cons_succ]
            have z7 := b7.size
            have z8 := b8.size
            have hpu : (Value.slice mn zp.length kn).ownBlock ≠ some w8.heap.size := fun e => by have := (omn.lt _ e).2; omega
            have hmu : (Value.slice mo zp.length ko).ownBlock ≠ some w8.heap.size := fun e => by have := (omo.lt _ e).2; omega
            have OPv := owns_mono (show wr.heap.size ≤ w7.heap.size by omega) (own_below omn bU)
            have OMv := owns_mono (show wr.heap.size ≤ w7.heap.size by omega) (own_below omo bU)
            have hVU : wr.heap.size ≤ w8.heap.size := by omega
            have BVV := BU
            clear BU bU b7 b8 omn omo z7 z8 B7 B8 hzU OZ
            generalize w8.alloc (.cells #[.slice none 0 0, .slice none 0 0] 26) = WV at *
            generalize w8.heap.size = UU at *
            refine wpAnyH_ready (rs := [9]) (by kernel_rfl) (by simp) ?_
            refine AllReadyH.cons rfl (fun K hK => ?_) AllReadyH.nil
            simp only [List.getElem_toArray, List.getElem_cons_zero, List.getElem_cons_succ]
            have ST := stored2 (.slice mn zp.length kn) (.slice mo zp.length ko) y0 y1 f0 f1
            have B9 := BVV.trans (ST.2.2.2.2.mono hVU)
            have F : UU < ((WV.setCell ⟨UU, 0, none⟩ (.slice mn zp.length kn)).setCell ⟨UU, 1, none⟩ (.slice mo zp.length ko)).heap.size ∧ ((WV.setCell ⟨UU, 0, none⟩ (.slice mn zp.length kn)).setCell ⟨UU, 1, none⟩ (.slice mo zp.length ko)).cell? ⟨UU, 0, none⟩ = some (.slice mn zp.length kn) ∧ ((WV.setCell ⟨UU, 0, none⟩ (.slice mn zp.length kn)).setCell ⟨UU, 1, none⟩ (.slice mo zp.length ko)).cell? ⟨UU, 1, none⟩ = some (.slice mo zp.length ko) ∧ ((WV.setCell ⟨UU, 0, none⟩ (.slice mn zp.length kn)).setCell ⟨UU, 1, none⟩ (.slice mo zp.length ko)).ownsRow wr.heap.size 2 1 (.slice mn zp.length kn) zp.length (ns.map (Value.int .i64)) ∧ ((WV.setCell ⟨UU, 0, none⟩ (.slice mn zp.length kn)).setCell ⟨UU, 1, none⟩ (.slice mo zp.length ko)).ownsRow wr.heap.size 2 1 (.slice mo zp.length ko) zp.length (ms.map (Value.int .i64)) ∧ Below wr.heap.size wr ((WV.setCell ⟨UU, 0, none⟩ (.slice mn zp.length kn)).setCell ⟨UU, 1, none⟩ (.slice mo zp.length ko)) := ⟨Nat.lt_of_lt_of_le (World.block_lt_of_cell? _ _ y0) ST.2.2.2.2.size, ST.1, ST.2.1, row_apart OPv (grown_trans (grown_set WV (UU) 0 (.slice mn zp.length kn)) (grown_set _ (UU) 1 (.slice mo zp.length ko))) (fun k e e2 => by cases e; exact hpu e2), row_apart OMv (grown_trans (grown_set WV (UU) 0 (.slice mn zp.length kn)) (grown_set _ (UU) 1 (.slice mo zp.length ko))) (fun k e e2 => by cases e; exact hmu e2), B9⟩
            have y0_ := y0
            have y1_ := y1
            have f0_ := f0
            have f1_ := f1
            clear ST
            go_simp
            refine hK.out _ _ ⟨cell_step B9 r0, cell_step B9 r1, cell_step B9 r2, B9⟩ (fun hHeld => ?_)
            clear hK K
            try simp only [Act.put, List.setIfInBounds_toArray, List.set_cons_zero, List.set_cons_succ, List.getElem_toArray, List.getElem_cons_zero, List.getElem_cons_succ]
            refine wpAnyH_take (i := 10) (v := ?v7) rfl (by kernel_rfl) (by kernel_rfl) (by kernel_rfl) (fun _ _ _ h => h) (Or.inl ⟨by rfl, ?hy7⟩) (by assumption) ?rest7
            case hy7 => (intro w hSw; (try dsimp only at hSw); go_simp; (first | done | with_reducible rfl))
            simp only [Act.put, List.setIfInBounds_toArray, List.set_cons_zero, List.set_cons_succ, List.getElem_toArray, List.getElem_cons_zero, List.getElem_cons_succ]
            refine wpAnyH_done (by kernel_rfl) ?_ _
            clear hHeld y0_ y1_ f0_ f1_ y0 y1 f0 f1 B9
            clear OPv OMv hpu hmu hVU BVV
            generalize (WV.setCell ⟨UU, 0, none⟩ (.slice mn zp.length kn)).setCell ⟨UU, 1, none⟩ (.slice mo zp.length ko) = W5 at *
            clear zd B00
            revert az cz mn kn mo ko UU W5
            exact TAIL.out
          refine AllReadyH.cons rfl (fun K hK => ?_) AllReadyH.nil
          try simp only [Act.put, List.setIfInBounds_toArray, List.set_cons_zero, List.set_cons_succ, List.getElem_toArray, List.getElem_cons_zero, List.getElem_cons_succ]
          go_simp
          have bU := (Below.refl w7.heap.size w7).alloc (Nat.le_refl _) (.cells #[.slice none 0 0, .slice none 0 0] 26)
          have hU := cells_two w7 (.slice none 0 0) (.slice none 0 0) 26
          have fU := World.frozen?_alloc_new w7 #[.slice none 0 0, .slice none 0 0] 26
          have hzU : (w7.alloc (.cells #[.slice none 0 0, .slice none 0 0] 26)).heap.size = w7.heap.size + 1 := by simp
          have BU := B7.trans (bU.mono B7.size)
          have y0 := hU.1
          have y1 := hU.2
          have f0 := fU 0
          have f1 := fU 1
          refine hK.out _ _ ⟨cell_step BU r0, cell_step BU r1, cell_step BU r2, BU⟩ (fun hHeld => ?_)
          clear hK K hU fU
          try simp only [Act.put, List.setIfInBounds_toArray, List.set_cons_zero, List.set_cons_succ, List.getElem_toArray, List.getElem_cons_zero, List.getElem_cons_succ]
          generalize hWV : w7.alloc (.cells #[.slice none 0 0, .slice none 0 0] 26) = WV at *
          refine wpAnyH_ready (rs := [4]) (by kernel_rfl) (by simp) ?_
          refine AllReadyH.cons rfl (fun K hK => ?_) AllReadyH.nil
          simp only [List.getElem_toArray, List.getElem_cons_zero, List.getElem_cons_succ]
          go_simp
          go_at_call 13
          refine (HNR.out _ (BW.trans (BU.mono (by have := BW.size; omega))) az cz (.inr (IntsAt.of_owns (zeros_length _).symm (own_below OZ.out bU)))).mono ?_
          rintro e w8 ⟨mn, kn, mo, ko, rfl, omn, omo, b8⟩
          have B8 := BU.trans (b8.mono BU.size)
          go_wp2_with fail
          refine hK.out _ _ ⟨cell_step B8 r0, cell_step B8 r1, cell_step B8 r2, B8⟩ (fun hHeld => ?_)
          clear hK K
          try simp only [Act.put, List.setIfInBounds_toArray, List.set_cons_zero, List.set_cons_succ, List.getElem_toArray, List.getElem_cons_zero, List.getElem_cons_succ]
          refine wpAnyH_take (i := 5) (v := ?v8) rfl (by kernel_rfl) (by kernel_rfl) (by kernel_rfl) (fun _ _ _ h => h) (Or.inl ⟨by rfl, ?hy8⟩) (by assumption) ?rest8
          case hy8 => (intro w hSw; (try dsimp only at hSw); go_simp; (first | done | with_reducible rfl))
          simp only [Act.put, List.setIfInBounds_toArray, List.set_cons_zero, List.set_cons_succ, List.getElem_toArray, List.getElem_cons_zero, List.getElem_cons_succ]
          refine wpAnyH_take (i := 6) (v := ?v9) rfl (by kernel_rfl) (by kernel_rfl) (by kernel_rfl) (fun _ _ _ h => h) (Or.inl ⟨by rfl, ?hy9⟩) (by assumption) ?rest9
          case hy9 => (intro w hSw; (try dsimp only at hSw); go_simp; (first | done | with_reducible rfl))
          simp only [Act.put, List.setIfInBounds_toArray, List.set_cons_zero, List.set_cons_succ, List.getElem_toArray, List.getElem_cons_zero, List.getElem_cons_succ]
          refine wpAnyH_take (i := 7) (v := ?v10) rfl (by kernel_rfl) (by kernel_rfl) (by kernel_rfl) (fun _ _ _ h => h) (Or.inl ⟨by rfl, ?hy10⟩) (by assumption) ?rest10
          case hy10 => (intro w hSw; (try dsimp only at hSw); go_simp; (first | done | with_reducible rfl))
          simp only [Act.put, List.setIfInBounds_toArray, List.set_cons_zero, List.set_cons_succ, List.getElem_toArray, List.getElem_cons_zero, List.getElem_cons_succ]
          have z7 := b7.size
          have z8 := b8.size
          have zU := bU.size
          have f0 := frozen_step b8 y0 f0
          have f1 := frozen_step b8 y1 f1
          have y0 := cell_step b8 y0
          have y1 := cell_step b8 y1
          have hpu : (Value.slice mn zp.length kn).ownBlock ≠ some w7.heap.size := fun e => by have := (omn.lt _ e).1; omega
          have hmu : (Value.slice mo zp.length ko).ownBlock ≠ some w7.heap.size := fun e => by have := (omo.lt _ e).1; omega
          have OPv := owns_mono (show wr.heap.size ≤ WV.heap.size by omega) omn
          have OMv := owns_mono (show wr.heap.size ≤ WV.heap.size by omega) omo
          have hVU : wr.heap.size ≤ w7.heap.size := by omega
          have BVV := B8
          refine wpAnyH_ready (rs := [9]) (by kernel_rfl) (by simp) ?_
          refine AllReadyH.cons rfl (fun K hK => ?_) AllReadyH.nil
          simp only [List.getElem_toArray, List.getElem_cons_zero, List.getElem_cons_succ]
          have ST := stored2 (.slice mn zp.length kn) (.slice mo zp.length ko) y0 y1 f0 f1
          have B9 := BVV.trans (ST.2.2.2.2.mono hVU)
          have F : w7.heap.size < ((w8.setCell ⟨w7.heap.size, 0, none⟩ (.slice mn zp.length kn)).setCell ⟨w7.heap.size, 1, none⟩ (.slice mo zp.length ko)).heap.size ∧ ((w8.setCell ⟨w7.heap.size, 0, none⟩ (.slice mn zp.length kn)).setCell ⟨w7.heap.size, 1, none⟩ (.slice mo zp.length ko)).cell? ⟨w7.heap.size, 0, none⟩ = some (.slice mn zp.length kn) ∧ ((w8.setCell ⟨w7.heap.size, 0, none⟩ (.slice mn zp.length kn)).setCell ⟨w7.heap.size, 1, none⟩ (.slice mo zp.length ko)).cell? ⟨w7.heap.size, 1, none⟩ = some (.slice mo zp.length ko) ∧ ((w8.setCell ⟨w7.heap.size, 0, none⟩ (.slice mn zp.length kn)).setCell ⟨w7.heap.size, 1, none⟩ (.slice mo zp.length ko)).ownsRow wr.heap.size 2 1 (.slice mn zp.length kn) zp.length (ns.map (Value.int .i64)) ∧ ((w8.setCell ⟨w7.heap.size, 0, none⟩ (.slice mn zp.length kn)).setCell ⟨w7.heap.size, 1, none⟩ (.slice mo zp.length ko)).ownsRow wr.heap.size 2 1 (.slice mo zp.length ko) zp.length (ms.map (Value.int .i64)) ∧ Below wr.heap.size wr ((w8.setCell ⟨w7.heap.size, 0, none⟩ (.slice mn zp.length kn)).setCell ⟨w7.heap.size, 1, none⟩ (.slice mo zp.length ko)) := ⟨Nat.lt_of_lt_of_le (World.block_lt_of_cell? _ _ y0) ST.2.2.2.2.size, ST.1, ST.2.1, row_apart OPv (grown_trans (grown_set w8 (w7.heap.size) 0 (.slice mn zp.length kn)) (grown_set _ (w7.heap.size) 1 (.slice mo zp.length ko))) (fun k e e2 => by cases e; exact hpu e2), row_apart OMv (grown_trans (grown_set w8 (w7.heap.size) 0 (.slice mn zp.length kn)) (grown_set _ (w7.heap.size) 1 (.slice mo zp.length ko))) (fun k e e2 => by cases e; exact hmu e2), B9⟩
          have y0_ := y0
          have y1_ := y1
          have f0_ := f0
          have f1_ := f1
          clear ST
          go_simp
          refine hK.out _ _ ⟨cell_step B9 r0, cell_step B9 r1, cell_step B9 r2, B9⟩ (fun hHeld => ?_)
          clear hK K
          try simp only [Act.put, List.setIfInBounds_toArray, List.set_cons_zero, List.set_cons_succ, List.getElem_toArray, List.getElem_cons_zero, List.getElem_cons_succ]
          refine wpAnyH_take (i := 10) (v := ?v11) rfl (by kernel_rfl) (by kernel_rfl) (by kernel_rfl) (fun _ _ _ h => h) (Or.inl ⟨by rfl, ?hy11⟩) (by assumption) ?rest11
          case hy11 => (intro w hSw; (try dsimp only at hSw); go_simp; (first | done | with_reducible rfl))
          simp only [Act.put, List.setIfInBounds_toArray, List.set_cons_zero, List.set_cons_succ, List.getElem_toArray, List.getElem_cons_zero, List.getElem_cons_succ]
          refine wpAnyH_done (by kernel_rfl) ?_ _
          clear hHeld y0_ y1_ f0_ f1_ y0 y1 f0 f1 B9
          exact TAIL.out _ _ _ _ _ _ _ _ F
        refine AllReadyH.cons rfl (fun K hK => ?_) AllReadyH.nil
        try simp only [Act.put, List.setIfInBounds_toArray, List.set_cons_zero, List.set_cons_succ, List.getElem_toArray, List.getElem_cons_zero, List.getElem_cons_succ]
        go_simp
        have bU := ((Below.refl wr.heap.size wr).alloc (Nat.le_refl _) (.cells #[.slice none 0 0, .slice none 0 0] 26)).drew
        have hU := cells_two wr (.slice none 0 0) (.slice none 0 0) 26
        have fU := World.frozen?_alloc_new wr #[.slice none 0 0, .slice none 0 0] 26
        have bD := (Below.refl (wr.alloc (.cells #[.slice none 0 0, .slice none 0 0] 26)).heap.size (wr.alloc (.cells #[.slice none 0 0, .slice none 0 0] 26))).drew
        have y0 := cell_step bD hU.1
        have y1 := cell_step bD hU.2
        have f0 := frozen_step bD hU.1 (fU 0)
        have f1 := frozen_step bD hU.2 (fU 1)
        have hzU : (wr.alloc (.cells #[.slice none 0 0, .slice none 0 0] 26)).drew.heap.size = wr.heap.size + 1 := by simp
        refine hK.out _ _ ⟨cell_step bU r0, cell_step bU r1, cell_step bU r2, bU⟩ (fun hHeld => ?_)
        clear hK K hU fU bD
        try simp only [Act.put, List.setIfInBounds_toArray, List.set_cons_zero, List.set_cons_succ, List.getElem_toArray, List.getElem_cons_zero, List.getElem_cons_succ]
        generalize (wr.alloc (.cells #[.slice none 0 0, .slice none 0 0] 26)).drew = W1_ at *
        refine wpAnyH_ready (rs := [2]) (by kernel_rfl) (by simp) ?_
        refine AllReadyH.cons rfl (fun K hK => ?_) AllReadyH.nil
        simp only [List.getElem_toArray, List.getElem_cons_zero, List.getElem_cons_succ]
        go_simp
        go_at_call 21
        refine (HT.out _ (BW.trans (bU.mono (by have := BW.size; omega)))).mono ?_
        rintro e w7 ⟨az, cz, rfl, oz, b7⟩
        have B7 := bU.trans (b7.mono bU.size)
        have OZ := Lib.hid oz
        clear oz
        go_wp2_with fail
        refine hK.out _ _ ⟨cell_step B7 r0, cell_step B7 r1, cell_step B7 r2, B7⟩ (fun hHeld => ?_)
        clear hK K
        try simp only [Act.put, List.setIfInBounds_toArray, List.set_cons_zero, List.set_cons_succ, List.getElem_toArray, List.getElem_cons_zero, List.getElem_cons_succ]
        refine wpAnyH_ready (rs := [4]) (by kernel_rfl) (by simp) ?_
        refine AllReadyH.cons rfl (fun K hK => ?_) AllReadyH.nil
        simp only [List.getElem_toArray, List.getElem_cons_zero, List.getElem_cons_succ]
        go_simp
        go_at_call 13
        refine (HNR.out _ (BW.trans (B7.mono (by have := BW.size; omega))) az cz (.inr (IntsAt.of_owns (zeros_length _).symm OZ.out))).mono ?_
        rintro e w8 ⟨mn, kn, mo, ko, rfl, omn, omo, b8⟩
        have B8 := B7.trans (b8.mono B7.size)
        go_wp2_with fail
        refine hK.out _ _ ⟨cell_step B8 r0, cell_step B8 r1, cell_step B8 r2, B8⟩ (fun hHeld => ?_)
        clear hK K
        try simp only [Act.put, List.setIfInBounds_toArray, List.set_cons_zero, List.set_cons_succ, List.getElem_toArray, List.getElem_cons_zero, List.getElem_cons_succ]
        refine wpAnyH_take (i := 5) (v := ?v12) rfl (by kernel_rfl) (by kernel_rfl) (by kernel_rfl) (fun _ _ _ h => h) (Or.inl ⟨by rfl, ?hy12⟩) (by assumption) ?rest12
        case hy12 => (intro w hSw; (try dsimp only at hSw); go_simp; (first | done | with_reducible rfl))
        simp only [Act.put, List.setIfInBounds_toArray, List.set_cons_zero, List.set_cons_succ, List.getElem_toArray, List.getElem_cons_zero, List.getElem_cons_succ]
        refine wpAnyH_take (i := 6) (v := ?v13) rfl (by kernel_rfl) (by kernel_rfl) (by kernel_rfl) (fun _ _ _ h => h) (Or.inl ⟨by rfl, ?hy13⟩) (by assumption) ?rest13
        case hy13 => (intro w hSw; (try dsimp only at hSw); go_simp; (first | done | with_reducible rfl))
        simp only [Act.put, List.setIfInBounds_toArray, List.set_cons_zero, List.set_cons_succ, List.getElem_toArray, List.getElem_cons_zero, List.getElem_cons_succ]
        refine wpAnyH_take (i := 7) (v := ?v14) rfl (by kernel_rfl) (by kernel_rfl) (by kernel_rfl) (fun _ _ _ h => h) (Or.inl ⟨by rfl, ?hy14⟩) (by assumption) ?rest14
        case hy14 => (intro w hSw; (try dsimp only at hSw); go_simp; (first | done | with_reducible rfl))
        simp only [Act.put, List.setIfInBounds_toArray, List.set_cons_zero, List.set_cons_succ, List.getElem_toArray, List.getElem_cons_zero, List.getElem_cons_succ]
        have z7 := b7.size
        have z8 := b8.size
        have f0 := frozen_step b8 (cell_step b7 y0) (frozen_step b7 y0 f0)
        have f1 := frozen_step b8 (cell_step b7 y1) (frozen_step b7 y1 f1)
        have y0 := cell_step b8 (cell_step b7 y0)
        have y1 := cell_step b8 (cell_step b7 y1)
        have hpu : (Value.slice mn zp.length kn).ownBlock ≠ some wr.heap.size := fun e => by have := (omn.lt _ e).1; omega
        have hmu : (Value.slice mo zp.length ko).ownBlock ≠ some wr.heap.size := fun e => by have := (omo.lt _ e).1; omega
        have OPv := owns_mono (show wr.heap.size ≤ w7.heap.size by omega) omn
        have OMv := owns_mono (show wr.heap.size ≤ w7.heap.size by omega) omo
        have hVU : wr.heap.size ≤ wr.heap.size := Nat.le_refl _
        have BVV := B8
        refine wpAnyH_ready (rs := [9]) (by kernel_rfl) (by simp) ?_
        refine AllReadyH.cons rfl (fun K hK => ?_) AllReadyH.nil
        simp only [List.getElem_toArray, List.getElem_cons_zero, List.getElem_cons_succ]
        have ST := stored2 (.slice mn zp.length kn) (.slice mo zp.length ko) y0 y1 f0 f1
        have B9 := BVV.trans (ST.2.2.2.2.mono hVU)
        have F : wr.heap.size < ((w8.setCell ⟨wr.heap.size, 0, none⟩ (.slice mn zp.length kn)).setCell ⟨wr.heap.size, 1, none⟩ (.slice mo zp.length ko)).heap.size ∧ ((w8.setCell ⟨wr.heap.size, 0, none⟩ (.slice mn zp.length kn)).setCell ⟨wr.heap.size, 1, none⟩ (.slice mo zp.length ko)).cell? ⟨wr.heap.size, 0, none⟩ = some (.slice mn zp.length kn) ∧ ((w8.setCell ⟨wr.heap.size, 0, none⟩ (.slice mn zp.length kn)).setCell ⟨wr.heap.size, 1, none⟩ (.slice mo zp.length ko)).cell? ⟨wr.heap.size, 1, none⟩ = some (.slice mo zp.length ko) ∧ ((w8.setCell ⟨wr.heap.size, 0, none⟩ (.slice mn zp.length kn)).setCell ⟨wr.heap.size, 1, none⟩ (.slice mo zp.length ko)).ownsRow wr.heap.size 2 1 (.slice mn zp.length kn) zp.length (ns.map (Value.int .i64)) ∧ ((w8.setCell ⟨wr.heap.size, 0, none⟩ (.slice mn zp.length kn)).setCell ⟨wr.heap.size, 1, none⟩ (.slice mo zp.length ko)).ownsRow wr.heap.size 2 1 (.slice mo zp.length ko) zp.length (ms.map (Value.int .i64)) ∧ Below wr.heap.size wr ((w8.setCell ⟨wr.heap.size, 0, none⟩ (.slice mn zp.length kn)).setCell ⟨wr.heap.size, 1, none⟩ (.slice mo zp.length ko)) := ⟨Nat.lt_of_lt_of_le (World.block_lt_of_cell? _ _ y0) ST.2.2.2.2.size, ST.1, ST.2.1, row_apart OPv (grown_trans (grown_set w8 (wr.heap.size) 0 (.slice mn zp.length kn)) (grown_set _ (wr.heap.size) 1 (.slice mo zp.length ko))) (fun k e e2 => by cases e; exact hpu e2), row_apart OMv (grown_trans (grown_set w8 (wr.heap.size) 0 (.slice mn zp.length kn)) (grown_set _ (wr.heap.size) 1 (.slice mo zp.length ko))) (fun k e e2 => by cases e; exact hmu e2), B9⟩
        have y0_ := y0
        have y1_ := y1
        have f0_ := f0
        have f1_ := f1
        clear ST
        go_simp
        refine hK.out _ _ ⟨cell_step B9 r0, cell_step B9 r1, cell_step B9 r2, B9⟩ (fun hHeld => ?_)
        clear hK K
        try simp only [Act.put, List.setIfInBounds_toArray, List.set_cons_zero, List.set_cons_succ, List.getElem_toArray, List.getElem_cons_zero, List.getElem_cons_succ]
        refine wpAnyH_take (i := 10) (v := ?v15) rfl (by kernel_rfl) (by kernel_rfl) (by kernel_rfl) (fun _ _ _ h => h) (Or.inl ⟨by rfl, ?hy15⟩) (by assumption) ?rest15
        case hy15 => (intro w hSw; (try dsimp only at hSw); go_simp; (first | done | with_reducible rfl))
        simp only [Act.put, List.setIfInBounds_toArray, List.set_cons_zero, List.set_cons_succ, List.getElem_toArray, List.getElem_cons_zero, List.getElem_cons_succ]
        refine wpAnyH_done (by kernel_rfl) ?_ _
        clear hHeld y0_ y1_ f0_ f1_ y0 y1 f0 f1 B9
        exact TAIL.out _ _ _ _ _ _ _ _ F
      case tail =>
        intro az cz mn kn mo ko UU W5 F
        obtain ⟨HF1, x0, x1, omn, omo, b5_⟩ := F
        have u0 := cell_step b5_ u0
        have u1 := cell_step b5_ u1
        have v0 := cell_step b5_ v0
        have v1 := cell_step b5_ v1
        have OWP := Lib.hid (own_below HOWN.out.1 b5_)
        have OWM := Lib.hid (own_below HOWN.out.2.1 b5_)
        have ONP := Lib.hid (own_below HOWN.out.2.2.1 b5_)
        have ONM := Lib.hid (own_below HOWN.out.2.2.2 b5_)
        have OMN := Lib.hid omn
        have OMO := Lib.hid omo
        have B5 := BW.trans (b5_.mono BW.size)
        have HB5 := Lib.hid B5
        have HAL := Lib.hid (alive_any W5.drew)
        have HSA := Lib.hid (fun W (b : Below W5.heap.size W5 W) => (show Calls Try.prog 22 #[.agg #[.slice ap zp.length cp, .slice am zp.length cm], .agg #[.slice an zp.length cn, .slice ao zp.length co]] W (fun e w' => e = .returned (.bool true) ∧ Below W.heap.size W w') from by
          have hn := HNL.out
          have hm := HML.out
          have X := same13_any (.slice ap zp.length cp) (.slice am zp.length cm) (.slice an zp.length cn) (.slice ao zp.length co) ns ms ns ms (by omega) (by omega) (by omega) (by omega) W (.inr ((IntsAt.of_owns hn.symm OWP.out).later b)) (.inr ((IntsAt.of_owns hm.symm OWM.out).later b)) (.inr ((IntsAt.of_owns hn.symm ONP.out).later b)) (.inr ((IntsAt.of_owns hm.symm ONM.out).later b))
          unfold sameS at X
          rw [sameL_self, sameL_self] at X
          exact X))
        have HSB := Lib.hid (fun W (b : Below W5.heap.size W5 W) => (show Calls Try.prog 14 #[.agg #[.slice ap zp.length cp, .slice am zp.length cm], .agg #[.slice mn zp.length kn, .slice mo zp.length ko]] W (fun e w' => e = .returned (.bool true) ∧ Below W.heap.size W w') from by
          have hn := HNL.out
          have hm := HML.out
          have X := refSame13_any (.slice ap zp.length cp) (.slice am zp.length cm) (.slice mn zp.length kn) (.slice mo zp.length ko) ns ms ns ms (by omega) (by omega) (by omega) (by omega) W (.inr ((IntsAt.of_owns hn.symm OWP.out).later b)) (.inr ((IntsAt.of_owns hm.symm OWM.out).later b)) (.inr ((IntsAt.of_owns hn.symm OMN.out).later b)) (.inr ((IntsAt.of_owns hm.symm OMO.out).later b))
          unfold sameS at X
          rw [sameL_self, sameL_self] at X
          exact X))
        clear omn omo b5_ BW B5 r0 r1 r2 HF1
        go_wp2_with fail
        refine wp_region_held_drew (S := fun w' => w'.cell? ⟨w3.heap.size, 0, none⟩ = some (.slice ap zp.length cp) ∧ w'.cell? ⟨w3.heap.size, 1, none⟩ = some (.slice am zp.length cm) ∧ w'.cell? ⟨w6.heap.size, 0, none⟩ = some (.slice an zp.length cn) ∧ w'.cell? ⟨w6.heap.size, 1, none⟩ = some (.slice ao zp.length co) ∧ w'.cell? ⟨UU, 0, none⟩ = some (.slice mn zp.length kn) ∧ w'.cell? ⟨UU, 1, none⟩ = some (.slice mo zp.length ko) ∧ Below W5.heap.size W5 w') (by kernel_rfl) ?_ (fun hHeld => ?_)
        · exact ⟨u0, u1, v0, v1, x0, x1, (Below.refl _ _).drew⟩
        clear u0 u1 v0 v1 x0 x1
        refine wpAnyH_ready (rs := [0]) (by kernel_rfl) (by simp) ?_
        refine AllReadyH.cons rfl (fun K hK => ?_) AllReadyH.nil
        simp only [List.getElem_toArray, List.getElem_cons_zero]
        go_simp
        go_at_call 9
        obtain ⟨h0, h1, h2, h3, h4, h5, h6⟩ := hHeld
        refine (HAL.out).mono ?_
        rintro e w_k0 ⟨rfl, k0⟩
        go_wp2_with fail
        refine hK.out _ _ ⟨cell_step k0 h0, cell_step k0 h1, cell_step k0 h2, cell_step k0 h3, cell_step k0 h4, cell_step k0 h5, below_step h6 k0⟩ (fun hHeld => ?_)
        clear hK K h0 h1 h2 h3 h4 h5 h6
        try simp only [Act.put, List.setIfInBounds_toArray, List.set_cons_zero, List.set_cons_succ, List.getElem_toArray, List.getElem_cons_zero, List.getElem_cons_succ]
        refine wpAnyH_take (i := 1) (v := ?v16) rfl (by kernel_rfl) (by kernel_rfl) (by kernel_rfl) (fun _ _ _ h => h) (Or.inl ⟨by rfl, ?hy16⟩) (by assumption) ?rest16
        case hy16 => (intro w hSw; (try dsimp only at hSw); go_simp; (first | done | with_reducible rfl))
        simp only [Act.put, List.setIfInBounds_toArray, List.set_cons_zero, List.set_cons_succ, List.getElem_toArray, List.getElem_cons_zero, List.getElem_cons_succ]
        refine wpAnyH_take (i := 2) (v := ?v17) rfl (by kernel_rfl) (by kernel_rfl) (by kernel_rfl) (fun _ _ _ h => h) (Or.inl ⟨by rfl, ?hy17⟩) (by assumption) ?rest17
        case hy17 => (intro w hSw; (try dsimp only at hSw); go_simp; (first | done | with_reducible rfl))
        simp only [Act.put, List.setIfInBounds_toArray, List.set_cons_zero, List.set_cons_succ, List.getElem_toArray, List.getElem_cons_zero, List.getElem_cons_succ]
        refine wpAnyH_take (i := 3) (v := ?v18) rfl (by kernel_rfl) (by kernel_rfl) (by kernel_rfl) (fun _ _ _ h => h) (Or.inl ⟨by rfl, ?hy18⟩) (by assumption) ?rest18
        case hy18 => (intro w hSw; (try dsimp only at hSw); go_simp; (first | done | with_reducible rfl))
        simp only [Act.put, List.setIfInBounds_toArray, List.set_cons_zero, List.set_cons_succ, List.getElem_toArray, List.getElem_cons_zero, List.getElem_cons_succ]
        refine wpAnyH_take (i := 4) (v := ?v19) rfl (by kernel_rfl) (by kernel_rfl) (by kernel_rfl) (fun _ _ _ h => h) (Or.inl ⟨by rfl, ?hy19⟩) (by assumption) ?rest19
        case hy19 => (intro w hSw; (try dsimp only at hSw); go_simp; (first | done | with_reducible rfl))
        simp only [Act.put, List.setIfInBounds_toArray, List.set_cons_zero, List.set_cons_succ, List.getElem_toArray, List.getElem_cons_zero, List.getElem_cons_succ]
        refine wpAnyH_take (i := 5) (v := ?v20) rfl (by kernel_rfl) (by kernel_rfl) (by kernel_rfl) (fun _ _ _ h => h) (Or.inl ⟨by rfl, ?hy20⟩) (by assumption) ?rest20
        case hy20 => (intro w hSw; (try dsimp only at hSw); go_simp; (first | done | with_reducible rfl))
        simp only [Act.put, List.setIfInBounds_toArray, List.set_cons_zero, List.set_cons_succ, List.getElem_toArray, List.getElem_cons_zero, List.getElem_cons_succ]
        refine wpAnyH_take (i := 6) (v := ?v21) rfl (by kernel_rfl) (by kernel_rfl) (by kernel_rfl) (fun _ _ _ h => h) (Or.inl ⟨by rfl, ?hy21⟩) (by assumption) ?rest21
        case hy21 => (intro w hSw; (try dsimp only at hSw); go_simp; (first | done | with_reducible rfl))
        simp only [Act.put, List.setIfInBounds_toArray, List.set_cons_zero, List.set_cons_succ, List.getElem_toArray, List.getElem_cons_zero, List.getElem_cons_succ]
        refine wpAnyH_ready (rs := [7]) (by kernel_rfl) (by simp) ?_
        refine AllReadyH.cons rfl (fun K hK => ?_) AllReadyH.nil
        simp only [List.getElem_toArray, List.getElem_cons_zero, List.getElem_cons_succ]
        go_simp
        go_at_call 22
        obtain ⟨h0, h1, h2, h3, h4, h5, h6⟩ := hHeld
        refine (HSA.out _ h6).mono ?_
        rintro e w_k1 ⟨rfl, k1⟩
        go_wp2_with fail
        refine hK.out _ _ ⟨cell_step k1 h0, cell_step k1 h1, cell_step k1 h2, cell_step k1 h3, cell_step k1 h4, cell_step k1 h5, below_step h6 k1⟩ (fun hHeld => ?_)
        clear hK K h0 h1 h2 h3 h4 h5 h6
        try simp only [Act.put, List.setIfInBounds_toArray, List.set_cons_zero, List.set_cons_succ, List.getElem_toArray, List.getElem_cons_zero, List.getElem_cons_succ]
        refine wpAnyH_take (i := 8) (v := ?v22) rfl (by kernel_rfl) (by kernel_rfl) (by kernel_rfl) (fun _ _ _ h => h) (Or.inl ⟨by rfl, ?hy22⟩) (by assumption) ?rest22
        case hy22 => (intro w hSw; (try dsimp only at hSw); go_simp; (first | done | with_reducible rfl))
        simp only [Act.put, List.setIfInBounds_toArray, List.set_cons_zero, List.set_cons_succ, List.getElem_toArray, List.getElem_cons_zero, List.getElem_cons_succ]
        refine wpAnyH_take (i := 9) (v := ?v23) rfl (by kernel_rfl) (by kernel_rfl) (by kernel_rfl) (fun _ _ _ h => h) (Or.inl ⟨by rfl, ?hy23⟩) (by assumption) ?rest23
        case hy23 => (intro w hSw; (try dsimp only at hSw); go_simp; (first | done | with_reducible rfl))
        simp only [Act.put, List.setIfInBounds_toArray, List.set_cons_zero, List.set_cons_succ, List.getElem_toArray, List.getElem_cons_zero, List.getElem_cons_succ]
        refine wpAnyH_take (i := 10) (v := ?v24) rfl (by kernel_rfl) (by kernel_rfl) (by kernel_rfl) (fun _ _ _ h => h) (Or.inl ⟨by rfl, ?hy24⟩) (by assumption) ?rest24
        case hy24 => (intro w hSw; (try dsimp only at hSw); go_simp; (first | done | with_reducible rfl))
        simp only [Act.put, List.setIfInBounds_toArray, List.set_cons_zero, List.set_cons_succ, List.getElem_toArray, List.getElem_cons_zero, List.getElem_cons_succ]
        refine wpAnyH_take (i := 12) (v := ?v25) rfl (by kernel_rfl) (by kernel_rfl) (by kernel_rfl) (fun _ _ _ h => h) (Or.inl ⟨by rfl, ?hy25⟩) (by assumption) ?rest25
        case hy25 => (intro w hSw; (try dsimp only at hSw); go_simp; (first | done | with_reducible rfl))
        simp only [Act.put, List.setIfInBounds_toArray, List.set_cons_zero, List.set_cons_succ, List.getElem_toArray, List.getElem_cons_zero, List.getElem_cons_succ]
        refine wpAnyH_ready (rs := [11]) (by kernel_rfl) (by simp) ?_
        refine AllReadyH.cons rfl (fun K hK => ?_) AllReadyH.nil
        simp only [List.getElem_toArray, List.getElem_cons_zero, List.getElem_cons_succ]
        go_simp
        go_at_call 15
        obtain ⟨h0, h1, h2, h3, h4, h5, h6⟩ := hHeld
        refine (back_any ap am zp.length zp.length cp cm _).mono ?_
        rintro e w_k2 ⟨rfl, k2⟩
        go_wp2_with fail
        refine hK.out _ _ ⟨cell_step k2 h0, cell_step k2 h1, cell_step k2 h2, cell_step k2 h3, cell_step k2 h4, cell_step k2 h5, below_step h6 k2⟩ (fun hHeld => ?_)
        clear hK K h0 h1 h2 h3 h4 h5 h6
        try simp only [Act.put, List.setIfInBounds_toArray, List.set_cons_zero, List.set_cons_succ, List.getElem_toArray, List.getElem_cons_zero, List.getElem_cons_succ]
        refine wpAnyH_ready (rs := [13]) (by kernel_rfl) (by simp) ?_
        refine AllReadyH.cons rfl (fun K hK => ?_) AllReadyH.nil
        simp only [List.getElem_toArray, List.getElem_cons_zero, List.getElem_cons_succ]
        go_simp
        go_at_call 14
        obtain ⟨h0, h1, h2, h3, h4, h5, h6⟩ := hHeld
        refine (HSB.out _ h6).mono ?_
        rintro e w_k3 ⟨rfl, k3⟩
        have BE := below_step h6 k3
        go_wp2_with fail
        refine hK.out _ _ ⟨cell_step k3 h0, cell_step k3 h1, cell_step k3 h2, cell_step k3 h3, cell_step k3 h4, cell_step k3 h5, below_step h6 k3⟩ (fun hHeld => ?_)
        clear hK K h0 h1 h2 h3 h4 h5 h6
        try simp only [Act.put, List.setIfInBounds_toArray, List.set_cons_zero, List.set_cons_succ, List.getElem_toArray, List.getElem_cons_zero, List.getElem_cons_succ]
        refine wpAnyH_take (i := 14) (v := ?v26) rfl (by kernel_rfl) (by kernel_rfl) (by kernel_rfl) (fun _ _ _ h => h) (Or.inl ⟨by rfl, ?hy26⟩) (by assumption) ?rest26
        case hy26 => (intro w hSw; (try dsimp only at hSw); go_simp; (first | done | with_reducible rfl))
        simp only [Act.put, List.setIfInBounds_toArray, List.set_cons_zero, List.set_cons_succ, List.getElem_toArray, List.getElem_cons_zero, List.getElem_cons_succ]
        refine wpAnyH_take (i := 15) (v := ?v27) rfl (by kernel_rfl) (by kernel_rfl) (by kernel_rfl) (fun _ _ _ h => h) (Or.inl ⟨by rfl, ?hy27⟩) (by assumption) ?rest27
        case hy27 => (intro w hSw; (try dsimp only at hSw); go_simp; (first | done | with_reducible rfl))
        simp only [Act.put, List.setIfInBounds_toArray, List.set_cons_zero, List.set_cons_succ, List.getElem_toArray, List.getElem_cons_zero, List.getElem_cons_succ]
        refine wpAnyH_done (by kernel_rfl) ?_ _
        have BF := HB5.out.trans (BE.mono (by have := HB5.out.size; omega))
        go_wp2_with fail
        go_ret
        exact ⟨rfl, BF⟩
    · rw [show ((i + 1 : Nat) : Int) - 1 = (i : Int) from by omega]
      have hrel := HFj.out
      rw [HFF.out] at hrel
      obtain ⟨r0, r1, r2, u0, u1, v0, v1, OL, OG, ON, OO, OP, OM, BW⟩ := hrel
      have hbi := HBI.out i
      obtain ⟨a, ha⟩ := Int.eq_ofNat_of_zero_le hbi.1
      obtain ⟨b, hb⟩ := Int.eq_ofNat_of_zero_le (show 0 ≤ bl (zp.length : Int) sz (i + 1) by omega)
      have hbi2 := HBI.out (i + 1)
      have hab : a ≤ b := by omega
      have hbz : b ≤ zp.length := by omega
      have eb : (bl (zp.length : Int) sz (i + 1)).toNat = b := by omega
      have ea : (bl (zp.length : Int) sz i).toNat = a := by omega
      rw [eb] at OP OM
      have HEA := Lib.hid ea
      have hr2 := HBA.out i (by omega)
      rw [ha, hb] at hr2
      obtain ⟨gl, cl', e0, hgl1, hgl2⟩ := own_some OL (show 0 < cnt by omega)
      cases e0
      have lc0 := (OL.cellAt (i * 2) (by omega)).trans hr2.1
      have lc1 := (OL.cellAt (i * 2 + 1) (by omega)).trans hr2.2
      obtain ⟨dg, dgc, hcutg, hposg⟩ := cut_form ag zp.length cg a b OG hab hbz
      have hcapg : (b : Int) ≤ cg := by rcases OG.2 with ⟨e, e2⟩ | ⟨g', cap', cur, e, _, _, hc, _⟩ <;> (injection e with e1 e2 e3; omega)
      have hsg := fun W => run_cut_lh (P := Try.prog) (T := 29) (s := 1) Try.underlying29 (by intro W; kernel_rfl) ag zp.length cg .i64 .i64 (a : Int) (b : Int) (by omega) (by omega) hcapg W
      simp only [Int.toNat_natCast] at hsg
      rw [hcutg] at hsg
      have HIG := Lib.hid (show IntsAt .i64 wr.heap.size wr (.slice dg (b - a) dgc) (subL2 zp a b) from by rw [← hcutg]; exact IntsAt.cut hab hbz (ints_own OG))
      have bd := (Below.refl wr.heap.size wr).drew
      have hst := half_step zp ns ms (zeros zp.length) a b rate mom q hab hbz (zeros_length _) HMS.out HNS.out
      have e1 := halfP_length zp ns b HNL.out.symm
      have e2 : (halfP (zeros zp.length) ms b).length = zp.length := by rw [halfP_length _ _ _ (by rw [zeros_length]; exact HML.out.symm), zeros_length]
      have HX := Lib.hid (show Calls Try.prog 16 #[.agg #[.int .i64 rate, .int .i64 mom, .int .i64 q], .agg #[.slice ap zp.length cp, .slice am zp.length cm], .agg #[.int .i64 (a : Int), .int .i64 (b : Int)], .slice dg (b - a) dgc] wr.drew (AppliedTo W1.heap.size (.slice ap zp.length cp) (.slice am zp.length cm) zp.length zp.length true (halfP zp ns a) (halfP (zeros zp.length) ms a) wr.drew) from by
        have X := apply_any rate mom q (a : Int) (b : Int) (.slice ap zp.length cp) (.slice am zp.length cm) (.slice dg (b - a) dgc) (halfP zp ns b) (halfP (zeros zp.length) ms b) (subL2 zp a b) W1.heap.size hr ho (half_word _ _ _ wp_ (by rw [HNS.out]; exact nextP_word _ _ _ _)) (half_word _ _ _ (zeros_word _) (by rw [HMS.out]; exact nextM_word _ _ _ _)) (by omega) (by omega) (by rw [subL2_length _ _ _ hbz]; omega) wr.drew (by rw [e1]; exact own_below OP bd) (by rw [e2]; exact own_below OM bd) pm (.inr (HIG.out.later bd))
        rw [hst.1, hst.2.1, hst.2.2, e1, e2] at X
        exact X)
      have HROW := Lib.hid (And.intro OL (And.intro OG (And.intro ON (And.intro OO BW))))
      have hgne : w3.heap.size ≤ gl := by omega
      have hic : i < cnt := by omega
      clear hst e1 e2 hcutg hposg hcapg hbi hbi2 ha hb eb ea hr2 OP OM OL OG ON OO BW
      go_wp2_with fail
      refine wp_region_held_drew (S := fun w' => w'.cell? ⟨w.heap.size, 0, none⟩ = some (.int .i64 rate) ∧ w'.cell? ⟨w.heap.size, 1, none⟩ = some (.int .i64 mom) ∧ w'.cell? ⟨w.heap.size, 2, none⟩ = some (.int .i64 q) ∧ w'.cell? ⟨w3.heap.size, 0, none⟩ = some (.slice ap zp.length cp) ∧ w'.cell? ⟨w3.heap.size, 1, none⟩ = some (.slice am zp.length cm) ∧ w'.cell? ⟨gl, i * 2, none⟩ = some (.int .i64 (a : Int)) ∧ w'.cell? ⟨gl, i * 2 + 1, none⟩ = some (.int .i64 (b : Int))) (by kernel_rfl) ?_ (fun hHeld => ?_)
      · exact ⟨cell_step bd r0, cell_step bd r1, cell_step bd r2, cell_step bd u0, cell_step bd u1, cell_step bd lc0, cell_step bd lc1⟩
      refine wpAnyH_take (i := 0) (v := ?v28) rfl (by kernel_rfl) (by kernel_rfl) (by kernel_rfl) (fun _ _ _ h => h) (Or.inl ⟨by rfl, ?hy28⟩) (by assumption) ?rest28
      case hy28 => (intro w hSw; (try dsimp only at hSw); go_simp; (first | done | with_reducible rfl))
      simp only [Act.put, List.setIfInBounds_toArray, List.set_cons_zero, List.set_cons_succ, List.getElem_toArray, List.getElem_cons_zero]
      refine wpAnyH_take (i := 1) (v := ?v29) rfl (by kernel_rfl) (by kernel_rfl) (by kernel_rfl) (fun _ _ _ h => h) (Or.inl ⟨by rfl, ?hy29⟩) (by assumption) ?rest29
      case hy29 => (intro w hSw; (try dsimp only at hSw); go_simp; (first | done | with_reducible rfl))
      simp only [Act.put, List.setIfInBounds_toArray, List.set_cons_zero, List.set_cons_succ, List.getElem_toArray, List.getElem_cons_zero, List.getElem_cons_succ]
      refine wpAnyH_take (i := 2) (v := ?v30) rfl (by kernel_rfl) (by kernel_rfl) (by kernel_rfl) (fun _ _ _ h => h) (Or.inl ⟨by rfl, ?hy30⟩) (by assumption) ?rest30
      case hy30 => (intro w hSw; (try dsimp only at hSw); go_simp; (first | done | with_reducible rfl))
      simp only [Act.put, List.setIfInBounds_toArray, List.set_cons_zero, List.set_cons_succ, List.getElem_toArray, List.getElem_cons_zero, List.getElem_cons_succ]
      refine wpAnyH_take (i := 3) (v := ?v31) rfl (by kernel_rfl) (by kernel_rfl) (by kernel_rfl) (fun _ _ _ h => h) (Or.inl ⟨by rfl, ?hy31⟩) (by assumption) ?rest31
      case hy31 => (intro w hSw; (try dsimp only at hSw); go_simp; (first | done | with_reducible rfl))
      simp only [Act.put, List.setIfInBounds_toArray, List.set_cons_zero, List.set_cons_succ, List.getElem_toArray, List.getElem_cons_zero, List.getElem_cons_succ]
      refine wpAnyH_take (i := 4) (v := ?v32) rfl (by kernel_rfl) (by kernel_rfl) (by kernel_rfl) (fun _ _ _ h => h) (Or.inl ⟨by rfl, ?hy32⟩) (by assumption) ?rest32
      case hy32 => (intro w hSw; (try dsimp only at hSw); go_simp; (first | done | with_reducible rfl))
      simp only [Act.put, List.setIfInBounds_toArray, List.set_cons_zero, List.set_cons_succ, List.getElem_toArray, List.getElem_cons_zero, List.getElem_cons_succ]
      refine wpAnyH_take (i := 5) (v := ?v33) rfl (by kernel_rfl) (by kernel_rfl) (by kernel_rfl) (fun _ _ _ h => h) (Or.inl ⟨by rfl, ?hy33⟩) (by assumption) ?rest33
      case hy33 => (intro w hSw; (try dsimp only at hSw); go_simp; (first | done | with_reducible rfl))
      simp only [Act.put, List.setIfInBounds_toArray, List.set_cons_zero, List.set_cons_succ, List.getElem_toArray, List.getElem_cons_zero, List.getElem_cons_succ]
      refine wpAnyH_take (i := 6) (v := ?v34) rfl (by kernel_rfl) (by kernel_rfl) (by kernel_rfl) (fun _ _ _ h => h) (Or.inl ⟨by rfl, ?hy34⟩) (by assumption) ?rest34
      case hy34 => (intro w hSw; (try dsimp only at hSw); go_simp; (first | done | with_reducible rfl))
      simp only [Act.put, List.setIfInBounds_toArray, List.set_cons_zero, List.set_cons_succ, List.getElem_toArray, List.getElem_cons_zero, List.getElem_cons_succ]
      refine wpAnyH_take (i := 7) (v := ?v35) rfl (by kernel_rfl) (by kernel_rfl) (by kernel_rfl) (fun _ _ _ h => h) (Or.inl ⟨by rfl, ?hy35⟩) (by assumption) ?rest35
      case hy35 => (intro w hSw; (try dsimp only at hSw); go_simp; (first | done | with_reducible rfl))
      simp only [Act.put, List.setIfInBounds_toArray, List.set_cons_zero, List.set_cons_succ, List.getElem_toArray, List.getElem_cons_zero, List.getElem_cons_succ]
      refine wpAnyH_take (i := 8) (v := ?v36) rfl (by kernel_rfl) (by kernel_rfl) (by kernel_rfl) (fun _ _ _ h => h) (Or.inl ⟨by rfl, ?hy36⟩) (by assumption) ?rest36
      case hy36 => (intro w hSw; (try dsimp only at hSw); go_simp; (first | done | with_reducible rfl))
      simp only [Act.put, List.setIfInBounds_toArray, List.set_cons_zero, List.set_cons_succ, List.getElem_toArray, List.getElem_cons_zero, List.getElem_cons_succ]
      refine wpAnyH_take (i := 9) (v := ?v37) rfl (by kernel_rfl) (by kernel_rfl) (by kernel_rfl) (fun _ _ _ h => h) (Or.inl ⟨by rfl, ?hy37⟩) (by assumption) ?rest37
      case hy37 => (intro w hSw; (try dsimp only at hSw); go_simp; (first | done | with_reducible rfl))
      simp only [Act.put, List.setIfInBounds_toArray, List.set_cons_zero, List.set_cons_succ, List.getElem_toArray, List.getElem_cons_zero, List.getElem_cons_succ]
      refine wpAnyH_take (i := 10) (v := ?v38) rfl (by kernel_rfl) (by kernel_rfl) (by kernel_rfl) (fun _ _ _ h => h) (Or.inl ⟨by rfl, ?hy38⟩) (by assumption) ?rest38
      case hy38 => (intro w hSw; (try dsimp only at hSw); go_simp; (first | done | with_reducible rfl))
      simp only [Act.put, List.setIfInBounds_toArray, List.set_cons_zero, List.set_cons_succ, List.getElem_toArray, List.getElem_cons_zero, List.getElem_cons_succ]
      refine wpAnyH_take (i := 11) (v := ?v39) rfl (by kernel_rfl) (by kernel_rfl) (by kernel_rfl) (fun _ _ _ h => h) (Or.inl ⟨by rfl, ?hy39⟩) (by assumption) ?rest39
      case hy39 => (intro w hSw; (try dsimp only at hSw); go_simp; (first | done | with_reducible rfl))
      simp only [Act.put, List.setIfInBounds_toArray, List.set_cons_zero, List.set_cons_succ, List.getElem_toArray, List.getElem_cons_zero, List.getElem_cons_succ]
      refine wpAnyH_take (i := 12) (v := ?v40) rfl (by kernel_rfl) (by kernel_rfl) (by kernel_rfl) (fun _ _ _ h => h) (Or.inl ⟨by rfl, ?hy40⟩) (by assumption) ?rest40
      case hy40 => (intro w hSw; (try dsimp only at hSw); go_simp; (first | done | with_reducible rfl))
      simp only [Act.put, List.setIfInBounds_toArray, List.set_cons_zero, List.set_cons_succ, List.getElem_toArray, List.getElem_cons_zero, List.getElem_cons_succ]
      refine wpAnyH_take (i := 13) (v := ?v41) rfl (by kernel_rfl) (by kernel_rfl) (by kernel_rfl) (fun _ _ _ h => h) (Or.inl ⟨by rfl, ?hy41⟩) (by assumption) ?rest41
      case hy41 => (intro w hSw; (try dsimp only at hSw); go_simp; (first | done | with_reducible rfl))
      simp only [Act.put, List.setIfInBounds_toArray, List.set_cons_zero, List.set_cons_succ, List.getElem_toArray, List.getElem_cons_zero, List.getElem_cons_succ]
      refine wpAnyH_take (i := 14) (v := ?v42) rfl (by kernel_rfl) (by kernel_rfl) (by kernel_rfl) (fun _ _ _ h => h) (Or.inl ⟨by rfl, ?hy42⟩) (by assumption) ?rest42
      case hy42 => (intro w hSw; (try dsimp only at hSw); go_simp; (first | done | with_reducible rfl))
      simp only [Act.put, List.setIfInBounds_toArray, List.set_cons_zero, List.set_cons_succ, List.getElem_toArray, List.getElem_cons_zero, List.getElem_cons_succ]
      refine wpAnyH_take (i := 15) (v := ?v43) rfl (by kernel_rfl) (by kernel_rfl) (by kernel_rfl) (fun _ _ _ h => h) (Or.inl ⟨by rfl, ?hy43⟩) (by assumption) ?rest43
      case hy43 => (intro w hSw; (try dsimp only at hSw); go_simp; (first | done | with_reducible rfl))
      simp only [Act.put, List.setIfInBounds_toArray, List.set_cons_zero, List.set_cons_succ, List.getElem_toArray, List.getElem_cons_zero, List.getElem_cons_succ]
      refine wpAnyH_take (i := 16) (v := ?v44) rfl (by kernel_rfl) (by kernel_rfl) (by kernel_rfl) (fun _ _ _ h => h) (Or.inl ⟨by rfl, ?hy44⟩) (by assumption) ?rest44
      case hy44 => (intro w hSw; (try dsimp only at hSw); go_simp; (first | done | with_reducible rfl))
      simp only [Act.put, List.setIfInBounds_toArray, List.set_cons_zero, List.set_cons_succ, List.getElem_toArray, List.getElem_cons_zero, List.getElem_cons_succ]
      refine wpAnyH_take (i := 17) (v := ?v45) rfl (by kernel_rfl) (by kernel_rfl) (by kernel_rfl) (fun _ _ _ h => h) (Or.inl ⟨by rfl, ?hy45⟩) (by assumption) ?rest45
      case hy45 => (intro w hSw; (try dsimp only at hSw); go_simp; (first | done | with_reducible rfl))
      simp only [Act.put, List.setIfInBounds_toArray, List.set_cons_zero, List.set_cons_succ, List.getElem_toArray, List.getElem_cons_zero, List.getElem_cons_succ]
      refine wpAnyH_ready (rs := [18]) (by kernel_rfl) (by simp) ?_
      refine AllReadyH.cons rfl (fun K hK => ?_) AllReadyH.nil
      simp only [List.getElem_toArray, List.getElem_cons_zero, List.getElem_cons_succ]
      go_simp
      go_at_call 16
      refine HX.out.mono ?_
      rintro e w8 ⟨rfl, op8, om8, W9, gr1, gr2⟩
      have zd : wr.drew.heap.size = wr.heap.size := rfl
      have zr := HROW.out.2.2.2.2.size
      have gneP : ∀ j, w3.heap.size ≤ j ∨ j < W1.heap.size → (Value.slice ap zp.length cp).ownBlock ≠ some j := fun j h e => by have := OPl j e; omega
      have gneM : ∀ j, w3.heap.size ≤ j ∨ j < W1.heap.size → (Value.slice am zp.length cm).ownBlock ≠ some j := fun j h e => by have := OMl j e; omega
      have BWd := HROW.out.2.2.2.2.drew
      have Bx := BWd.grown gr1 (by omega) (fun j e => by have := OPl j e; omega)
      have By := Bx.grown gr2 Bx.size (fun j e => by have := OMl j e; omega)
      have r0 := (cell_apart (g := w.heap.size) (o := 0) gr1 (World.block_lt_of_cell? _ _ (cell_step bd r0)) (gneP _ (by omega))).trans (cell_step bd r0)
      have r0 := (cell_apart (g := w.heap.size) (o := 0) gr2 (World.block_lt_of_cell? _ _ r0) (gneM _ (by omega))).trans r0
      have r1 := (cell_apart (g := w.heap.size) (o := 1) gr1 (World.block_lt_of_cell? _ _ (cell_step bd r1)) (gneP _ (by omega))).trans (cell_step bd r1)
      have r1 := (cell_apart (g := w.heap.size) (o := 1) gr2 (World.block_lt_of_cell? _ _ r1) (gneM _ (by omega))).trans r1
      have r2 := (cell_apart (g := w.heap.size) (o := 2) gr1 (World.block_lt_of_cell? _ _ (cell_step bd r2)) (gneP _ (by omega))).trans (cell_step bd r2)
      have r2 := (cell_apart (g := w.heap.size) (o := 2) gr2 (World.block_lt_of_cell? _ _ r2) (gneM _ (by omega))).trans r2
      have u0 := (cell_apart (g := w3.heap.size) (o := 0) gr1 (World.block_lt_of_cell? _ _ (cell_step bd u0)) (gneP _ (by omega))).trans (cell_step bd u0)
      have u0 := (cell_apart (g := w3.heap.size) (o := 0) gr2 (World.block_lt_of_cell? _ _ u0) (gneM _ (by omega))).trans u0
      have u1 := (cell_apart (g := w3.heap.size) (o := 1) gr1 (World.block_lt_of_cell? _ _ (cell_step bd u1)) (gneP _ (by omega))).trans (cell_step bd u1)
      have u1 := (cell_apart (g := w3.heap.size) (o := 1) gr2 (World.block_lt_of_cell? _ _ u1) (gneM _ (by omega))).trans u1
      have v0 := (cell_apart (g := w6.heap.size) (o := 0) gr1 (World.block_lt_of_cell? _ _ (cell_step bd v0)) (gneP _ (by omega))).trans (cell_step bd v0)
      have v0 := (cell_apart (g := w6.heap.size) (o := 0) gr2 (World.block_lt_of_cell? _ _ v0) (gneM _ (by omega))).trans v0
      have v1 := (cell_apart (g := w6.heap.size) (o := 1) gr1 (World.block_lt_of_cell? _ _ (cell_step bd v1)) (gneP _ (by omega))).trans (cell_step bd v1)
      have v1 := (cell_apart (g := w6.heap.size) (o := 1) gr2 (World.block_lt_of_cell? _ _ v1) (gneM _ (by omega))).trans v1
      have lc0 := (cell_apart (g := gl) (o := i * 2) gr1 (World.block_lt_of_cell? _ _ (cell_step bd lc0)) (gneP _ (by omega))).trans (cell_step bd lc0)
      have lc0 := (cell_apart (g := gl) (o := i * 2) gr2 (World.block_lt_of_cell? _ _ lc0) (gneM _ (by omega))).trans lc0
      have lc1 := (cell_apart (g := gl) (o := i * 2 + 1) gr1 (World.block_lt_of_cell? _ _ (cell_step bd lc1)) (gneP _ (by omega))).trans (cell_step bd lc1)
      have lc1 := (cell_apart (g := gl) (o := i * 2 + 1) gr2 (World.block_lt_of_cell? _ _ lc1) (gneM _ (by omega))).trans lc1
      have OL := own_below HROW.out.1 bd
      have OL := row_apart OL gr1 (fun j e e2 => gneP j (.inl (by have := (OL.lt j e2).1; omega)) e)
      have OL := row_apart OL gr2 (fun j e e2 => gneM j (.inl (by have := (OL.lt j e2).1; omega)) e)
      have OG := own_below HROW.out.2.1 bd
      have OG := row_apart OG gr1 (fun j e e2 => gneP j (.inl (by have := (OG.lt j e2).1; omega)) e)
      have OG := row_apart OG gr2 (fun j e e2 => gneM j (.inl (by have := (OG.lt j e2).1; omega)) e)
      have ON := own_below HROW.out.2.2.1 bd
      have ON := row_apart ON gr1 (fun j e e2 => gneP j (.inl (by have := (ON.lt j e2).1; omega)) e)
      have ON := row_apart ON gr2 (fun j e e2 => gneM j (.inl (by have := (ON.lt j e2).1; omega)) e)
      have OO := own_below HROW.out.2.2.2.1 bd
      have OO := row_apart OO gr1 (fun j e e2 => gneP j (.inl (by have := (OO.lt j e2).1; omega)) e)
      have OO := row_apart OO gr2 (fun j e e2 => gneM j (.inl (by have := (OO.lt j e2).1; omega)) e)
      have HF8 : Hid (FF w8 a) := Lib.hid (by rw [HFF.out]; exact ⟨r0, r1, r2, u0, u1, v0, v1, OL, OG, ON, OO, op8, om8, By⟩)
      clear op8 om8 gr1 gr2 gneP gneM OL OG ON OO Bx By BWd HX
      go_wp2_with fail
      refine hK.out _ _ ⟨r0, r1, r2, u0, u1, lc0, lc1⟩ (fun hHeld => ?_)
      clear hK K
      try simp only [Act.put, List.setIfInBounds_toArray, List.set_cons_zero, List.set_cons_succ, List.getElem_toArray, List.getElem_cons_zero, List.getElem_cons_succ]
      refine wpAnyH_take (i := 19) (v := ?v46) rfl (by kernel_rfl) (by kernel_rfl) (by kernel_rfl) (fun _ _ _ h => h) (Or.inl ⟨by rfl, ?hy46⟩) (by assumption) ?rest46
      case hy46 => (intro w hSw; (try dsimp only at hSw); go_simp; (first | done | with_reducible rfl))
      simp only [Act.put, List.setIfInBounds_toArray, List.set_cons_zero, List.set_cons_succ, List.getElem_toArray, List.getElem_cons_zero, List.getElem_cons_succ]
      refine wpAnyH_done (by kernel_rfl) ?_ _
      clear hHeld r0 r1 r2 u0 u1 v0 v1 lc0 lc1
      go_wp2_with fail
      refine ⟨⟨i, by omega, by go_num, by rw [HEA.out]; exact HF8⟩, ?_⟩
      show ((i : Int) - 1 + 1).toNat < ((i : Int) + 1).toNat
      omega
theorem walk_pieces (rate mom q s8 : Int) (p : Value) (zp : List Int) (hr : Word rate) (ho : Word mom) (wp_ : ∀ z ∈ zp, Word z) (hs0 : 0 ≤ s8) (hs1 : s8 ≤ 255) (w : World) (hp : zp.length ≤ maxLen) (ip : IntsAt .i64 w.heap.size w p zp) :
    Calls Try.prog 5 #[.agg #[.int .i64 rate, .int .i64 mom, .int .i64 q], p, .int .u8 s8] w fun e w' => e = .returned (.bool true) ∧ Below w.heap.size w w' := by
  cases hf : fewB [zp]
  · exact walk_pieces_no rate mom q s8 p zp hr ho wp_ hs0 hs1 w hp ip hf
  · have h := (fewB_true hf).2 zp (by simp)
    exact walk_pieces_yes rate mom q s8 p zp hr ho wp_ hs0 hs1 w hp ip h hf
end Go.Proofs.Ytmffgbmjomaehaa
