/- Many draws at once. -/
import Derived.Test.YtognfmkabjngnaaDrawC
import Derived.LoopN
import Derived.Deep.RegionHeld3
import Derived.OwnWalk
import Derived.Test.YtognfmkabjngnaaGen
namespace Go.Proofs.Ytognfmkabjngnaa
open Go.RowKit
/-- the draws that come next, below bounds -/
def manyL (zs : List Int) : Nat → List Int → List Int
  | _, [] => []
  | k, n :: bs => (zs[k]?.getD 0) % n :: manyL zs (k + 1) bs
def manyB (zs : List Int) (k : Nat) (bs : List Int) : Bool := decide (bs.length + k ≤ zs.length) && bs.all fun n => decide (1 ≤ n)
theorem manyL_length (zs : List Int) (k : Nat) (bs : List Int) : (manyL zs k bs).length = bs.length := by
  induction bs generalizing k with
  | nil => rfl
  | cons n bs ih => simp [manyL, ih]
theorem manyL_take (zs : List Int) (k : Nat) (bs : List Int) (j : Nat) (hj : j < bs.length) : manyL zs k (bs.take (j + 1)) = manyL zs k (bs.take j) ++ [(zs[k + j]?.getD 0) % bs[j]?.getD 0] := by
  induction bs generalizing k j with
  | nil => simp at hj
  | cons n bs ih =>
    cases j with
    | zero => simp [manyL]
    | succ j =>
      simp only [List.take_succ_cons, manyL, List.cons_append]
      rw [ih (k + 1) j (by simpa using hj)]
      simp [Nat.add_assoc, Nat.add_comm 1 j]
theorem elemI : Elem Try.prog 36 3 (.int .i64 0) 1 8 := ⟨Try.underlying36, info_parts (by kernel_rfl), rfl, by decide⟩
theorem nextR_ok {zs : List Int} {k : Nat} {n : Int} (hn : 1 ≤ n) (hk : k < zs.length) : nextR zs k n = ((zs[k]?.getD 0) % n, true, k + 1) := by
  unfold nextR; rw [if_neg (by omega)]
def ManyDone (b : Nat) (zs : List Int) (k : Nat) (bs : List Int) (w : World) (e : Ending) (w' : World) : Prop :=
  if manyB zs k bs then ∃ v, e = .returned (.tuple #[v, .bool true]) ∧ w'.ownsRow w.heap.size 3 1 v bs.length ((manyL zs k bs).map (Value.int .i64)) ∧ StreamAt b w' zs (k + bs.length) ∧ w.grownBy w' (some b)
  else e = .returned (.tuple #[.slice none 0 0, .bool false]) ∧ StreamAt b w' zs k ∧ w.grownBy w' (some b)
theorem many_any (b : Nat) (zs : List Int) (hz : ∀ z ∈ zs, 0 ≤ z ∧ z < 18446744073709551616) (k : Nat) (hm : zs.length ≤ 1048576) (v : Value) (bs : List Int) (hbs : ∀ n ∈ bs, -9223372036854775808 ≤ n ∧ n ≤ 9223372036854775807) (hl : bs.length ≤ 1048576) (w : World) (h : StreamAt b w zs k) (hv : IntsAt .i64 w.heap.size w v bs) (hap : ∀ g o n c, v = .slice (some ⟨g, o, none⟩) n c → g ≠ b) :
    Calls Try.prog 11 #[.pointer (some ⟨b, 0, none⟩), v] w (ManyDone b zs k bs w) := by
  have hk := h.2.1
  rcases hv.form with ⟨rfl, rfl⟩ | ⟨g, off, cap, rfl, hcap, hg, hcs⟩
  · have hF : manyB zs k [] = true := by unfold manyB; simp; omega
    have e2 : decide ((zs.length : Int) - k < 0) = false := by simp; omega
    go_enter Try.func11, Try.ntmps11
    go_wp2_with fail
    refine (left_any b zs k hm _ h).mono ?_
    rintro e w1 ⟨rfl, b1⟩
    have s1 := h.later b1
    have HF := Lib.hid hF
    clear hF
    go_wp2_with fail
    go_loopw [7, 24] (fun _ i wr => i = .int .i64 0 ∧ wr = w1) (fun _ _ _ => 0)
    case atStart => exact ⟨rfl, rfl⟩
    case round =>
      obtain ⟨rfl, rfl⟩ := hrel
      go_wp2_with fail
      go_loopw [8, 10, 11, 33] (fun l _ _ i wr2 => l = .slice none 0 0 ∧ i = .int .i64 0 ∧ wr2 = wr) (fun _ _ _ _ _ => 0)
      case atStart => exact ⟨rfl, rfl, rfl⟩
      case round =>
        obtain ⟨rfl, rfl, rfl⟩ := hrel
        go_wp2_with fail
        go_ret2
        unfold ManyDone
        rw [HF.out]
        exact ⟨_, rfl, World.ownsRow_nil _ _ _ _, s1, grown_below b1 _⟩
  have hgb := hap _ _ _ _ rfl
  clear hap
  go_enter Try.func11, Try.ntmps11
  go_wp2_with fail
  refine (left_any b zs k hm _ h).mono ?_
  rintro e w1 ⟨rfl, b1⟩
  have s1 := h.later b1
  by_cases h2 : bs.length + k ≤ zs.length
  · have e2 : decide ((zs.length : Int) - k < bs.length) = false := by simp; omega
    go_wp2_with fail
    have W1 := Lib.hid (hv.below b1)
    have HS := Lib.hid s1
    have HC : Hid (∀ j, j < bs.length → w1.cell? ⟨g, off + j, none⟩ = some (.int .i64 (bs[j]?.getD 0))) := Lib.hid (fun j hj => (b1.cell (p := ⟨g, off + j, none⟩) hg).trans (hcs j hj))
    have HV := Lib.hid hv
    have HH := Lib.hid h
    have HB := Lib.hid hbs
    clear hcs hv h s1 hbs
    go_loopw [7, 24] (fun _ i wr => ∃ j : Nat, j ≤ bs.length ∧ i = .int .i64 j ∧ Below w1.heap.size w1 wr ∧ ∀ n ∈ bs.take j, 1 ≤ n) (fun _ i _ => bs.length - (intOf i).toNat)
    case atStart => exact ⟨0, Nat.zero_le _, rfl, Below.refl _ _, by simp⟩
    case round =>
      obtain ⟨j, hj, rfl, hB, hall⟩ := hrel
      by_cases hlt : j < bs.length
      · have c := (hB.cell (p := ⟨g, off + j, none⟩) (Nat.lt_of_lt_of_le hg b1.size)).trans (HC.out j hlt)
        have hn := HB.out (bs[j]?.getD 0) (by rw [List.getElem?_eq_getElem hlt]; exact List.getElem_mem hlt)
        have ht : bs.take (j + 1) = bs.take j ++ [bs[j]?.getD 0] := by rw [List.take_add_one, List.getElem?_eq_getElem hlt]; rfl
        have hmem : bs[j]?.getD 0 ∈ bs := by rw [List.getElem?_eq_getElem hlt]; exact List.getElem_mem hlt
        have HT := Lib.hid ht
        clear ht
        generalize bs[j]?.getD 0 = n at *
        by_cases h1 : n < 1
        · have e1 : decide (n < 1) = true := by simpa using h1
          have hF : manyB zs k bs = false := by
            unfold manyB
            rw [show (bs.all fun n => decide (1 ≤ n)) = false by rw [List.all_eq_false]; exact ⟨n, hmem, by simp; omega⟩]
            simp
          go_wp2
          go_ret2
          unfold ManyDone
          rw [hF]
          exact ⟨rfl, HS.out.later hB, grown_below (b1.trans (hB.mono b1.size)) _⟩
        · have e1 : decide (n < 1) = false := by simpa using h1
          go_wp2
          refine ⟨⟨j + 1, by omega, by rw [Int.natCast_add]; rfl, hB, ?_⟩, ?_⟩
          · intro y hy
            rw [HT.out, List.mem_append] at hy
            rcases hy with hy | hy
            · exact hall y hy
            · simp only [List.mem_singleton] at hy; omega
          · show bs.length - ((j : Int) + 1).toNat < bs.length - ((j : Int)).toNat
            omega
      · have hje : j = bs.length := by omega
        subst hje
        rw [List.take_length] at hall
        have hF : manyB zs k bs = true := by
          unfold manyB
          simp only [Bool.and_eq_true, decide_eq_true_eq, List.all_eq_true]
          exact ⟨h2, hall⟩
        have HA := Lib.hid hall
        have g0 := grown_below (b1.trans (hB.mono b1.size)) (some b)
        have HS1 := Lib.hid (HS.out.later hB)
        have HG0 := Lib.hid g0
        have HFF := Lib.hid hF
        have HL1 := Lib.hid hl
        clear hall g0 hF
        go_wp2_with fail
        go_loopw [8, 10, 11, 33] (fun l _ _ i wr => ∃ j : Nat, j ≤ bs.length ∧ i = .int .i64 j ∧ wr.ownsRow w.heap.size 3 1 l j ((manyL zs k (bs.take j)).map (Value.int .i64)) ∧ StreamAt b wr zs (k + j) ∧ w.grownBy wr (some b)) (fun _ _ _ i _ => bs.length - (intOf i).toNat)
        case atStart => exact ⟨0, Nat.zero_le _, rfl, World.ownsRow_nil _ _ _ _, HS1.out, HG0.out⟩
        case round =>
          obtain ⟨j, hj, rfl, hO, hst, hgr⟩ := hrel
          by_cases hlt : j < bs.length
          · have c := (grown_cell hgr (o := off + j) hg hgb).trans ((b1.cell (p := ⟨g, off + j, none⟩) hg).symm.trans (HC.out j hlt))
            have hn := HB.out (bs[j]?.getD 0) (by rw [List.getElem?_eq_getElem hlt]; exact List.getElem_mem hlt)
            have hn1 := HA.out (bs[j]?.getD 0) (by rw [List.getElem?_eq_getElem hlt]; exact List.getElem_mem hlt)
            have HM := Lib.hid (manyL_take zs k bs j hlt)
            have N := next_any b zs hz (k + j) hm (bs[j]?.getD 0) hn wr hst
            have HR := nextR_ok (zs := zs) (k := k + j) hn1 (by omega)
            unfold Nexted at N
            rw [HR] at N
            generalize bs[j]?.getD 0 = n at *
            generalize zs[k + j]?.getD 0 % n = d at *
            have HO := Lib.hid hO
            have HGR := Lib.hid hgr
            have HN := Lib.hid N
            clear hO hgr N HR hst
            go_wp2_with fail
            refine HN.out.mono ?_
            rintro e w5 ⟨rfl, st, gr⟩
            have HO5 := Lib.hid (row_kept HO.out gr HH.out.1)
            have HG5 := Lib.hid (grown_trans HGR.out gr)
            have HST := Lib.hid st
            clear st gr
            go_wp2_with (at_builtin; refine append_one elemI rfl _ _ rfl rfl rfl HO5.out rfl ?_ ?_ ?_ ?_ ?_; (simp [Value.oneCell']); (unfold maxLen; omega); omega; (exact HG5.out.size); intro v' w' ho' hg'; have hg2 := Lib.hid (show w5.grownBy w' u8.ownBlock from hg'); clear hg'; have HO' := Lib.hid ho'; clear ho')
            have hBw := (Below.refl w.heap.size w5).grown hg2.out HG5.out.size (fun k e => (HO5.out.lt k e).1)
            refine ⟨⟨j + 1, by omega, by rw [Int.natCast_add]; rfl, by rw [HM.out, List.map_append]; exact HO'.out, ?_, grown_then HG5.out hBw⟩, ?_⟩
            · exact HST.out.below hBw HH.out.1
            · show bs.length - ((j : Int) + 1).toNat < bs.length - ((j : Int)).toNat
              omega
          · have hje : j = bs.length := by omega
            subst hje
            rw [List.take_length] at hO
            go_wp2_with fail
            go_ret2
            unfold ManyDone
            rw [HFF.out]
            exact ⟨_, rfl, hO, hst, hgr⟩
  · have e2 : decide ((zs.length : Int) - k < bs.length) = true := by simp; omega
    have hB : manyB zs k bs = false := by unfold manyB; simp [h2]
    go_wp2_with fail
    go_ret2
    unfold ManyDone
    rw [hB]
    exact ⟨rfl, by first | exact s1 | exact s1.later (Below.refl _ _).drew, by first | exact grown_below b1 _ | exact grown_below b1.drew _⟩
/-! ### the reference -/
def RefSt (v : Value) (k : Nat) : Value := .agg #[v, .int .i64 k]
set_option maxHeartbeats 1000000 in
theorem refNext_any (v : Value) (zs : List Int) (hz : ∀ z ∈ zs, 0 ≤ z ∧ z < 18446744073709551616) (k : Nat) (hm : zs.length ≤ 1048576) (n : Int) (hn : -9223372036854775808 ≤ n ∧ n ≤ 9223372036854775807) (w : World) (hv : IntsAt .u64 w.heap.size w v zs) :
    Calls Try.prog 8 #[RefSt v k, .int .i64 n] w fun e w' => e = .returned (.tuple #[RefSt v (nextR zs k n).2.2, .int .i64 (nextR zs k n).1, .bool (nextR zs k n).2.1]) ∧ Below w.heap.size w w' := by
  obtain ⟨a, len, cap, rfl⟩ : ∃ a len cap, v = .slice a len cap := by
    rcases hv.form with ⟨e, _⟩ | ⟨b, off, cap, e, _⟩ <;> exact ⟨_, _, _, e⟩
  obtain rfl := hv.len
  unfold RefSt
  by_cases h1 : n < 1
  · have e1 : decide (n < 1) = true := by simpa using h1
    have hR : nextR zs k n = (0, false, k) := by unfold nextR; rw [if_pos (Or.inl h1)]
    rw [hR]
    go_enter Try.func8, Try.ntmps8
    go_wp2_with fail
    (try simp only [Exit.inBlock, Exit.then])
    refine bodyPost_ret (v := .tuple #[.agg #[.slice a zs.length cap, .int .i64 k], .int .i64 0, .bool false]) (by simp [results, Try.results8, go_sem]) rfl ⟨rfl, ?_⟩
    exact ((Below.refl _ _).alloc (Nat.le_refl _) _).alloc (by simp) _
  · have e1 : decide (n < 1) = false := by simpa using h1
    by_cases h2 : zs.length ≤ k
    · have e2 : decide ((zs.length : Int) ≤ k) = true := by simp; omega
      have hR : nextR zs k n = (0, false, k) := by unfold nextR; rw [if_pos (Or.inr h2)]
      rw [hR]
      go_enter Try.func8, Try.ntmps8
      go_wp2_with fail
      (try simp only [Exit.inBlock, Exit.then])
      refine bodyPost_ret (v := .tuple #[.agg #[.slice a zs.length cap, .int .i64 k], .int .i64 0, .bool false]) (by simp [results, Try.results8, go_sem]) rfl ⟨rfl, ?_⟩
      exact ((Below.refl _ _).alloc (Nat.le_refl _) _).alloc (by simp) _
    · have e2 : decide ((zs.length : Int) ≤ k) = false := by simp; omega
      have hR : nextR zs k n = ((zs[k]?.getD 0) % n, true, k + 1) := by unfold nextR; rw [if_neg (by omega)]
      rw [hR]
      rcases hv.form with ⟨_, e0⟩ | ⟨g, off, cap', e0, hcap, hg, hcs⟩
      · rw [e0] at h2; simp at h2
      cases e0
      have k0 : k < zs.length := by omega
      have cz := hcs k k0
      have z0 := hz (zs[k]?.getD 0) (by rw [List.getElem?_eq_getElem k0]; exact List.getElem_mem k0)
      clear hcs hR hv
      generalize zs[k]?.getD 0 = z at *
      have q0 := Int.emod_nonneg z (show n ≠ 0 by omega)
      have q1 := Int.emod_lt_of_pos z (show 0 < n by omega)
      have i0 : (0 : Int) ≤ (k : Int) := by omega
      have i1 : (k : Int) < (zs.length : Int) := by omega
      have wn : IntKind.u64.wrap n = n := IntWalk.u64_in _ (by omega)
      have wk : IntKind.i64.wrap ((k : Int) + 1) = k + 1 := IntWalk.i64_in _ (by omega)
      have wz : wrap64 (z % n) = z % n := by first | exact IntWalk.i64_in _ (by omega) | (rw [← IntKind.wrap_i64]; exact IntWalk.i64_in _ (by omega)) | (unfold wrap64; omega)
      have wz' : IntKind.i64.wrap (z % n) = z % n := IntWalk.i64_in _ (by omega)
      go_enter Try.func8, Try.ntmps8
      go_wp2_with fail
      go_region
      go_wp2_with fail
      (try simp only [Exit.inBlock, Exit.then])
      refine bodyPost_ret (v := .tuple #[.agg #[.slice (some ⟨g, off, none⟩) zs.length cap, .int .i64 (k + 1)], .int .i64 (z % n), .bool true]) (by simp [results, Try.results8, go_sem]) rfl ⟨rfl, ?_⟩
      exact (((Below.refl _ _).alloc (Nat.le_refl _) _).alloc (by simp) _).drew
set_option maxHeartbeats 1000000 in
theorem same_any (b : Nat) (v : Value) (zs : List Int) (k : Nat) (hm : zs.length ≤ 1048576) (w : World) (h : StreamAt b w zs k) (hv : IntsAt .u64 w.heap.size w v zs) :
    Calls Try.prog 10 #[.pointer (some ⟨b, 0, none⟩), RefSt v k] w fun e w' => e = .returned (.bool true) ∧ Below w.heap.size w w' := by
  have hk := h.2.1
  obtain ⟨a, len, cap, rfl⟩ : ∃ a len cap, v = .slice a len cap := by
    rcases hv.form with ⟨e, _⟩ | ⟨b, off, cap, e, _⟩ <;> exact ⟨_, _, _, e⟩
  obtain rfl := hv.len
  unfold RefSt
  go_enter Try.func10, Try.ntmps10
  go_wp2_with fail
  have hB0 := (Below.refl w.heap.size w).alloc (Nat.le_refl _) (.cells #[.slice a zs.length cap, .int .i64 k] 27)
  have r01 := cells_two w (.slice a zs.length cap) (.int .i64 k) 27
  have HST := Lib.hid (h.later hB0)
  generalize w.alloc (.cells #[.slice a zs.length cap, .int .i64 k] 27) = W0 at *
  obtain ⟨r0, r1⟩ := r01
  have HH := Lib.hid h
  clear h hv
  have wk : IntKind.i64.wrap ((zs.length : Int) - k) = zs.length - k := IntWalk.i64_in _ (by omega)
  generalize hBs : w.heap.size = B at *
  go_region_held3 (fun w' => w'.cell? ⟨B, 0, none⟩ = some (.slice a zs.length cap) ∧ w'.cell? ⟨B, 1, none⟩ = some (.int .i64 k) ∧ Below W0.heap.size W0 w') (first | (refine ⟨?_, ?_, ?_⟩ <;> (first | assumption | exact (Below.refl _ _).drew | exact cell_step ‹_› ‹_› | exact below_step (Below.refl _ _).drew ‹_›)) | (obtain ⟨k0, k1, k4⟩ := ‹_ ∧ _ ∧ Below _ _ _›; refine ⟨?_, ?_, ?_⟩ <;> (first | assumption | exact cell_step ‹_› ‹_› | exact below_step ‹_› ‹_›))) (first | (go_at_call 12; obtain ⟨_, _, k4⟩ := ‹_ ∧ _ ∧ Below _ _ _›; with_reducible refine (left_any b zs k hm _ (HST.out.later k4)).mono ?_; rintro e w5 ⟨rfl, h5⟩) | (go_at_call 13; obtain ⟨_, _, k4⟩ := ‹_ ∧ _ ∧ Below _ _ _›; with_reducible refine (used_any b zs k _ (HST.out.later k4)).mono ?_; rintro e w6 ⟨rfl, h6⟩))
  go_wp2
  go_ret
  obtain ⟨_, _, k4⟩ := ‹_ ∧ _ ∧ Below _ _ _›
  subst hBs
  exact ⟨by first | rfl | (simp; done), below_step hB0 k4⟩
end Go.Proofs.Ytognfmkabjngnaa
