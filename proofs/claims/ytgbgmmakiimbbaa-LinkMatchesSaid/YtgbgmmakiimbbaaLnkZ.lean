/- Layer 18: the results and the state of a link are those of the reference. -/
import Derived.Test.YtgbgmmakiimbbaaLnkF2
namespace Go.Proofs.Ytgbgmmakiimbbaa
open Go.RowKit
set_option linter.unusedVariables false
/-- what ties a link to the reference's messages after j calls -/
structure LinkBd (c : Nat) (q : List Ms) (rcv hi : Nat) (ms : List Ms) (j : Nat) : Prop where
  hq : q = ms.drop rcv
  len : ms.length = rcv + q.length
  le : ms.length ≤ j
  hi : hi ≤ c
  z : ∀ m ∈ ms, m.zs.length * 8 ≤ 140737488351232
theorem LinkBd.new (c : Nat) : LinkBd c [] 0 0 [] 0 := ⟨rfl, rfl, Nat.le_refl _, Nat.zero_le _, fun m hm => by cases hm⟩
theorem LinkBd.next {c : Nat} {q : List Ms} {rcv hi : Nat} {ms : List Ms} {j : Nat} (h : LinkBd c q rcv hi ms j) : LinkBd c q rcv hi ms (j + 1) := ⟨h.hq, h.len, Nat.le_succ_of_le h.le, h.hi, h.z⟩
theorem LinkBd.send {c : Nat} {q : List Ms} {rcv hi : Nat} {ms : List Ms} {j : Nat} (h : LinkBd c q rcv hi ms j) (m : Ms) (hm : m.zs.length * 8 ≤ 140737488351232) (hc : q.length < c) : LinkBd c (q ++ [m]) rcv (max hi (q.length + 1)) (ms ++ [m]) (j + 1) := by
  have h1 := h.len
  have h2 := h.le
  have h3 := h.hi
  refine ⟨?_, by rw [List.length_append, List.length_append]; simp; omega, by rw [List.length_append]; simp; omega, by omega, fun x hx => ?_⟩
  · rw [List.drop_append_of_le_length (by omega), ← h.hq]
  · rcases List.mem_append.1 hx with hx | hx
    · exact h.z x hx
    · simp at hx
      subst hx
      exact hm
theorem LinkBd.recv {c : Nat} {q : List Ms} {m : Ms} {rcv hi : Nat} {ms : List Ms} {j : Nat} (h : LinkBd c (m :: q) rcv hi ms j) : LinkBd c q (rcv + 1) hi ms (j + 1) := by
  have h1 := h.len
  have h2 := h.le
  simp at h1
  refine ⟨?_, by omega, by omega, h.hi, h.z⟩
  have := h.hq
  rw [← List.drop_drop, ← this]
  rfl
theorem LinkBd.head {c : Nat} {q : List Ms} {m : Ms} {rcv hi : Nat} {ms : List Ms} {j : Nat} (h : LinkBd c (m :: q) rcv hi ms j) : ms[rcv]? = some m := by
  have := h.hq
  have e := congrArg (fun l => l[0]?) this
  simp at e
  exact e.symm
theorem LinkBd.ok {c : Nat} {q : List Ms} {rcv hi : Nat} {ms : List Ms} {j : Nat} (h : LinkBd c q rcv hi ms j) (hj : j ≤ 101) (hc : c ≤ 256) : LinkOk c q rcv hi := by
  have h1 := h.len
  have h2 := h.le
  have h3 := h.hi
  refine ⟨by omega, by omega, by omega, fun m hm => h.z m ?_⟩
  rw [h.hq] at hm
  exact List.mem_of_mem_drop hm
theorem LinkAt.blk {b B cap rcv hi k : Nat} {q : List Ms} {w w' : World} {t : TypeId} {cs : Array Value} (h : LinkAt b B cap q rcv hi w) (hs : Blk w k t cs) (ht : t ≠ 34) (ht2 : t ≠ 2) (hg : w.grownBy w' (some k)) (hne : b ≠ k) : LinkAt b B cap q rcv hi w' := by
  obtain ⟨hbB, hBw, first, R, rv, cs', h1, h2, h3, h4⟩ := h
  refine ⟨hbB, Nat.le_trans hBw hg.size, first, R, rv, cs', Six.kept h1 hg (fun e => hne (Option.some.inj e)), h2.kept hg (hs.not_row h2 ht), h3, fun i m hm => ?_⟩
  obtain ⟨v, hc, ho⟩ := h4 i m hm
  exact ⟨v, hc, ho.kept hg (hs.not_row ho ht2)⟩
theorem Both.blk {n₀ b bw cap : Nat} {q : List Ms} {rcv hi : Nat} {sv : Value} {ms : List Ms} {rr pk : Nat} {w w' : World} (h : Both n₀ b bw cap q rcv hi sv ms rr pk w) {k : Nat} {t : TypeId} {cs : Array Value} (hs : Blk w k t cs) (ht : t ≠ 34) (ht2 : t ≠ 2) (hk : bw < k) (hg : w.grownBy w' (some k)) :
    Both n₀ b bw cap q rcv hi sv ms rr pk w' := by
  have hne : b ≠ k := by have := h.ord; omega
  refine ⟨h.link.blk hs ht ht2 hg hne, h.four.kept hg (fun e => by have := Option.some.inj e; omega), ?_, fun j hj => ?_, h.low, h.ord⟩
  · obtain ⟨cs', ho, hc⟩ := h.sent
    refine ⟨cs', ho.kept hg (hs.not_row ho ht), fun i m hm => ?_⟩
    obtain ⟨u, hd, hu⟩ := hc i m hm
    exact ⟨u, hd, hu.below ((Grown.below hg hs.lt).mono (by have := h.low; have := h.ord; omega))⟩
  · rw [ringB_kept h.link hg hne] at hj
    exact h.ring j hj
set_option maxRecDepth 8000 in
set_option maxHeartbeats 16000000 in
theorem walk_matches (v : Value) (xs : List Opr) (cp : Int) (hcp : 0 ≤ cp ∧ cp ≤ 255) (hl : xs.length ≤ maxLen) (hz : ∀ x ∈ xs, x.m.zs.length * 8 ≤ 140737488351232) (w : World) (hv : OpsAt w.heap.size w v xs) :
    Calls Try.prog 3 #[.int .u8 cp, v] w fun e w' => e = .returned (.bool true) ∧ Below w.heap.size w w' := by
  obtain ⟨N, rfl⟩ : ∃ N : Nat, cp = N := ⟨cp.toNat, by omega⟩
  obtain ⟨c, hc⟩ : ∃ c : Nat, c = 1 + N := ⟨_, rfl⟩
  have hc1 : 1 ≤ c := by omega
  have hc2 : c ≤ 256 := by omega
  have w0 : IntKind.i64.wrap (N : Int) = N := IntWalk.i64_in _ (by omega)
  have w3' : (1 : Int) + (N : Int) = c := by omega
  have w4' : IntKind.i64.wrap ((1 : Int) + (N : Int)) = c := (IntWalk.i64_in _ (by omega)).trans w3'
  obtain ⟨oa, oc, rfl⟩ := hv.value
  have HV := Lib.hid hv
  have HZ := Lib.hid hz
  have HFW := Lib.hid (fun W (hb : Below w.heap.size w W) => few18_any (.slice oa xs.length oc) xs hl w.heap.size W hb.size hz (hv.below hb))
  clear hv hz hc hl
  go_enter Try.func3, Try.ntmps3
  go_wp2_with fail
  refine (new_any c w (by omega) (by omega)).mono ?_
  rintro e w1 ⟨rfl, hL, b1⟩
  rw [Int.toNat_natCast] at hL
  have HF := HFW.out w1 b1
  clear HFW w0 w3' w4'
  cases hf : fewOB xs with
  | false =>
    rw [hf] at HF
    go_wp2_with fail
    refine HF.mono ?_
    rintro e w3 ⟨rfl, b3⟩
    have B3 := Lib.hid (b1.trans (b3.mono b1.size))
    clear HF b3 hL b1
    go_wp2_with fail
    refine (alive18_any w3).mono ?_
    rintro e w4 ⟨rfl, b4⟩
    have B4 := Lib.hid (B3.out.trans (b4.mono B3.out.size))
    clear B3 b4
    go_wp2_with fail
    go_ret
    exact ⟨rfl, B4.out⟩
  | true =>
    rw [hf] at HF
    have hn : xs.length ≤ 100 := by
      unfold fewOB at hf
      rw [Bool.and_eq_true] at hf
      exact of_decide_eq_true hf.2
    clear hf
    go_wp2_with fail
    refine HF.mono ?_
    rintro e w2 ⟨rfl, b2⟩
    have L := (LinkAt.new (b := w.heap.size) (B := w.heap.size + 1) (Nat.lt_succ_self _) (Six.lt hL) hL).later b2
    have R : ringB w.heap.size w2 = none := ringB_of (Six.later hL b2)
    have B2 := b1.trans (b2.mono b1.size)
    clear HF hL b1 b2
    go_upto_region 6 with fail
    have hbw : w.heap.size < w2.heap.size := L.lt
    have F := Four.new w2 29 (.int .i64 c) (.slice none 0 0) (.int .i64 0) (.int .i64 0)
    have c3 := (Below.refl w2.heap.size w2).alloc (Nat.le_refl _) (.cells #[.int .i64 c, .slice none 0 0, .int .i64 0, .int .i64 0] 29)
    have B3 := Lib.hid (B2.trans (c3.mono B2.size))
    have H : Both w.heap.size w.heap.size w2.heap.size c [] 0 0 (.slice none 0 0) [] 0 0 (w2.alloc (.cells #[.int .i64 c, .slice none 0 0, .int .i64 0, .int .i64 0] 29)) :=
      ⟨L.later c3, F, SentAt.nil _ _ _, (fun k hk => by rw [ringB_later L c3, R] at hk; cases hk), Nat.le_refl _, hbw⟩
    clear L R F c3 B2
    generalize w2.alloc (.cells #[.int .i64 c, .slice none 0 0, .int .i64 0, .int .i64 0] 29) = w3 at *
    generalize w2.heap.size = bw at *
    have HH := Lib.hid H
    clear H
    go_wp2_with fail
    go_loopw [9, 10, 11, 12, 13, 14, 15, 16, 17, 18, 40] (fun o x code t ms' m e x' want want' i wr => ∃ (j : Nat) (q : List Ms) (rcv hi : Nat) (sv : Value) (ms : List Ms), j ≤ xs.length ∧ i = .int .i64 j ∧ Both w.heap.size w.heap.size bw c q rcv hi sv ms rcv hi wr ∧ LinkBd c q rcv hi ms j ∧ Below w.heap.size w wr) (fun _ _ _ _ _ _ _ _ _ _ i _ => xs.length - (intOf i).toNat)
    case atStart => exact ⟨0, [], 0, 0, _, [], Nat.zero_le _, rfl, HH.out, LinkBd.new c, B3.out⟩
    case round =>
      clear HH B3
      obtain ⟨j, q, rcv, hi, sv, ms, hj, rfl, H, hbd, hB⟩ := hrel
      by_cases hlt : j < xs.length
      · have hdec : decide ((j : Int) < (xs.length : Int)) = true := by simp; omega
        have wj : IntKind.i64.wrap ((j : Int) + 1) = j + 1 := IntWalk.i64_in _ (by omega)
        obtain ⟨x, hx⟩ : ∃ x, xs[j]? = some x := ⟨_, List.getElem?_eq_getElem hlt⟩
        rcases HV.out.below hB with ⟨rfl, _⟩ | ⟨g, off, cp', e0, hgn, hcc⟩
        · simp at hlt
        cases e0
        obtain ⟨u, ⟨x0, x1, x2, x3, x4, x5, x6, x7⟩, hu⟩ := hcc j x hx
        obtain ⟨va, vc, rfl⟩ := hu.value
        have hxz := HZ.out x (List.mem_of_getElem? hx)
        obtain ⟨kd, ⟨⟨ta, tb, tc, td, te⟩, zs⟩, fi⟩ := x
        dsimp only at x0 x1 x2 x3 x4 x5 x6 x7 hxz hu
        have i0 : (0 : Int) ≤ (j : Int) := by omega
        have i1 : (j : Int) < (xs.length : Int) := by omega
        have c8 := (Below.refl wr.heap.size wr).alloc (Nat.le_refl _) (.cells #[.int .i64 kd, .int .i64 ta, .int .i64 tb, .int .i64 tc, .int .i64 td, .int .i64 te, .slice va zs.length vc, .bool fi] 36)
        have O8 := Blk.new wr 36 #[.int .i64 kd, .int .i64 ta, .int .i64 tb, .int .i64 tc, .int .i64 td, .int .i64 te, .slice va zs.length vc, .bool fi]
        have hbo : bw < wr.heap.size := H.four.lt
        replace H := H.later c8
        have HU := Lib.hid (hu.below (c8.mono hB.size))
        have B8 := Lib.hid (hB.trans (c8.mono hB.size))
        have HBD := Lib.hid hbd
        clear hcc hu hB hx c8 hbd
        go_upto_region 9 with fail
        generalize wr.alloc (.cells #[.int .i64 kd, .int .i64 ta, .int .i64 tb, .int .i64 tc, .int .i64 td, .int .i64 te, .slice va zs.length vc, .bool fi] 36) = w8 at *
        clear x0 x1 x2 x3 x4 x5 x6 x7
        generalize wr.heap.size = bo at *
        have HH := Lib.hid H
        have HO := Lib.hid O8
        clear H O8

        obtain ⟨sa, sc, rfl⟩ := HH.out.sent.value
        have o0 := HO.out.cell (j := 0) rfl
        by_cases hk0 : kd = 0
        · subst hk0
          by_cases hqc : q.length < c
          · skip
            obtain ⟨h1, hh1⟩ : ∃ h1, h1 = max hi (q.length + 1) := ⟨_, rfl⟩
            obtain ⟨N1, hN1⟩ : ∃ N1, N1 = ms.length + 1 := ⟨_, rfl⟩
            have HH1 := Lib.hid hh1
            have HN1 := Lib.hid hN1
            have HSD := refSend_room c (.slice sa ms.length sc) (.slice va zs.length vc) ms zs rcv hi ⟨ta, tb, tc, td, te⟩ w.heap.size (w.heap.size + 1) (by have := HBD.out.le; omega) (by have := HBD.out.len; omega) (by have := HBD.out.len; omega) (by have := HBD.out.hi; omega) w8 HH.out.sent B8.out.size HU.out
            rw [show max hi (ms.length + 1 - rcv) = h1 by have := HBD.out.len; omega] at HSD
            clear hh1 hN1
            obtain ⟨c0, c1, c2, c3⟩ := HH.out.four.cells
            have o1 := HO.out.cell (j := 1) rfl
            have o2 := HO.out.cell (j := 2) rfl
            have o3 := HO.out.cell (j := 3) rfl
            have o4 := HO.out.cell (j := 4) rfl
            have o5 := HO.out.cell (j := 5) rfl
            have o6 := HO.out.cell (j := 6) rfl
            go_wp2_with fail
            refine HSD.mono ?_
            clear HSD c0 c1 c2 c3 o0 o1 o2 o3 o4 o5 o6
            rintro e w9 ⟨sv', rfl, SN, b9⟩
            obtain ⟨ya, yc, rfl⟩ : ∃ a c', sv' = .slice a N1 c' := by rw [HN1.out]; have := SN.value; rw [List.length_append] at this; exact this
            unfold encL
            have H := HH.out.later b9
            have O9 := HO.out.later b9
            have HU9 := Lib.hid (HU.out.below (b9.mono B8.out.size))
            have B9 := Lib.hid (B8.out.trans (b9.mono B8.out.size))
            have R9 := ringB_later HH.out.link b9
            have F9 := Four.new w9 29 (.int .i64 c) (.slice ya N1 yc) (.int .i64 rcv) (.int .i64 h1)
            have c10 := (Below.refl w9.heap.size w9).alloc (Nat.le_refl _) (.cells #[.int .i64 c, .slice ya N1 yc, .int .i64 rcv, .int .i64 h1] 29)
            have HF : ∀ k, ringB w.heap.size (w9.alloc (.cells #[.int .i64 c, .slice ya N1 yc, .int .i64 rcv, .int .i64 h1] 29)) = some k → (Value.slice ya N1 yc).ownBlock ≠ some k := fun k hk e => by
              obtain ⟨cs, ho, _⟩ := SN
              have h1 := (ho.lt k e).1
              have h2 := (HH.out.link.ring (k := k) (by rw [← R9, ← ringB_later H.link c10]; exact hk)).2
              omega
            have hbw9 : w.heap.size < w8.heap.size := HH.out.link.lt
            replace SN := SN.later c10 B9.out.size
            replace H := H.later c10
            replace O9 := O9.later c10
            have HU10 := Lib.hid (HU9.out.below (c10.mono B9.out.size))
            have B10 := Lib.hid (B9.out.trans (c10.mono B9.out.size))
            have hbo2 := O9.lt
            clear c10 B9 R9 HU9 HH HO b9 B8 HU
            go_upto_region 11 with fail
            generalize w9.alloc (.cells #[.int .i64 c, .slice ya N1 yc, .int .i64 rcv, .int .i64 h1] 29) = w10 at *
            generalize w9.heap.size = bx at *
            obtain ⟨x0, x1, x2, x3⟩ := F9.cells
            obtain ⟨c0, c1, c2, c3⟩ := H.four.cells
            have f0 := H.four.frozen 0
            have f1 := H.four.frozen 1
            have f2 := H.four.frozen 2
            have f3 := H.four.frozen 3
            have G := grown_four w10 bw (.int .i64 c) (.slice ya N1 yc) (.int .i64 rcv) (.int .i64 h1)
            have O10 := Lib.hid (O9.kept G (fun e => by have := Option.some.inj e; omega))
            have H6 : Both w.heap.size w.heap.size bw c q rcv hi (.slice ya N1 yc) (ms ++ [(⟨⟨ta, tb, tc, td, te⟩, zs⟩ : Ms)]) rcv h1 ((((w10.setCell ⟨bw, 0, none⟩ (.int .i64 c)).setCell ⟨bw, 1, none⟩ (.slice ya N1 yc)).setCell ⟨bw, 2, none⟩ (.int .i64 rcv)).setCell ⟨bw, 3, none⟩ (.int .i64 h1)) := H.refs SN (by omega) (fun k hk => HF k hk)
            have HU11 := Lib.hid (HU10.out.below ((below_four w10 bw (.int .i64 c) (.slice ya N1 yc) (.int .i64 rcv) (.int .i64 h1)).mono (Nat.le_of_lt H.ord)))
            have B11 := Lib.hid (B10.out.trans ((below_four w10 bw (.int .i64 c) (.slice ya N1 yc) (.int .i64 rcv) (.int .i64 h1)).mono (Nat.le_of_lt H.ord)))
            have HH := Lib.hid H6
            clear H H6 G O9 B10 HU10 F9 SN HF
            go_upto_region 12 with fail
            clear x0 x1 x2 x3 c0 c1 c2 c3 f0 f1 f2 f3
            generalize ((((w10.setCell ⟨bw, 0, none⟩ (.int .i64 c)).setCell ⟨bw, 1, none⟩ (.slice ya N1 yc)).setCell ⟨bw, 2, none⟩ (.int .i64 rcv)).setCell ⟨bw, 3, none⟩ (.int .i64 h1)) = w11 at *
            have o1 := O10.out.cell (j := 1) rfl
            have o2 := O10.out.cell (j := 2) rfl
            have o3 := O10.out.cell (j := 3) rfl
            have o4 := O10.out.cell (j := 4) rfl
            have o5 := O10.out.cell (j := 5) rfl
            have o6 := O10.out.cell (j := 6) rfl
            have hlt11 := HH.out.link.lt
            go_wp2_with fail
            clear o1 o2 o3 o4 o5 o6
            refine (send_ok w.heap.size c rcv hi q ⟨ta, tb, tc, td, te⟩ (.slice va zs.length vc) zs hxz w11 (fun W' g => (HU11.out.below (Grown.below g hlt11)).grow B11.out.size) HH.out.link (HBD.out.ok (by omega) hc2) hqc).mono ?_
            rintro e w12 ⟨rfl, l12, t12, r12⟩
            rw [← HH1.out] at l12
            have HH12 := Lib.hid (HH.out.touch l12 t12 r12)
            have B12 := Lib.hid (B11.out.trans t12.1)
            clear l12 t12 r12 HH B11 HU11 O10
            have HH := HH12
            clear HH12
            go_upto_region 23 with fail
            have HBD2 := Lib.hid (show LinkBd c (q ++ [(⟨⟨ta, tb, tc, td, te⟩, zs⟩ : Ms)]) rcv h1 (ms ++ [(⟨⟨ta, tb, tc, td, te⟩, zs⟩ : Ms)]) (j + 1) from by rw [HH1.out]; exact HBD.out.send (⟨⟨ta, tb, tc, td, te⟩, zs⟩ : Ms) hxz hqc)
            obtain ⟨c0, c1, c2, c3⟩ := HH.out.four.cells
            have HSM := Lib.hid (same18_any w.heap.size c rcv h1 (q ++ [(⟨⟨ta, tb, tc, td, te⟩, zs⟩ : Ms)]) (.slice ya N1 yc) (ms ++ [(⟨⟨ta, tb, tc, td, te⟩, zs⟩ : Ms)]) HBD2.out.hq HBD2.out.len (by have := HBD2.out.le; omega) w12 HH.out.link (HBD2.out.ok (by omega) hc2) (HH.out.sent.msgs B12.out.size))
            go_wp2_with fail
            refine HSM.out.mono ?_
            rintro e wz ⟨rfl, bz⟩
            have HZZ := Lib.hid (HH.out.later bz)
            have BZ := Lib.hid (B12.out.trans (bz.mono B12.out.size))
            clear HH B12 bz HSM c0 c1 c2 c3
            go_wp2_with fail
            go_roundw
            case rel => exact ⟨j + 1, _, _, _, _, _, by omega, by go_num, HZZ.out, HBD2.out, BZ.out⟩
            case measure => simp [intOf]; omega
          · skip
            have HSD := refSend_full c sa ms.length sc rcv hi ⟨ta, tb, tc, td, te⟩ (.slice va zs.length vc) (by have := HBD.out.le; omega) (by have := HBD.out.len; omega) (by have := HBD.out.len; omega) w8
            obtain ⟨c0, c1, c2, c3⟩ := HH.out.four.cells
            have o1 := HO.out.cell (j := 1) rfl
            have o2 := HO.out.cell (j := 2) rfl
            have o3 := HO.out.cell (j := 3) rfl
            have o4 := HO.out.cell (j := 4) rfl
            have o5 := HO.out.cell (j := 5) rfl
            have o6 := HO.out.cell (j := 6) rfl
            go_wp2_with fail
            refine HSD.mono ?_
            clear HSD c0 c1 c2 c3 o0 o1 o2 o3 o4 o5 o6
            rintro e w9 ⟨rfl, b9⟩
            unfold encL
            have H := HH.out.later b9
            have O9 := HO.out.later b9
            have HU9 := Lib.hid (HU.out.below (b9.mono B8.out.size))
            have B9 := Lib.hid (B8.out.trans (b9.mono B8.out.size))
            have R9 := ringB_later HH.out.link b9
            have F9 := Four.new w9 29 (.int .i64 c) (.slice sa ms.length sc) (.int .i64 rcv) (.int .i64 hi)
            have c10 := (Below.refl w9.heap.size w9).alloc (Nat.le_refl _) (.cells #[.int .i64 c, .slice sa ms.length sc, .int .i64 rcv, .int .i64 hi] 29)
            replace H := H.later c10
            replace O9 := O9.later c10
            have HU10 := Lib.hid (HU9.out.below (c10.mono B9.out.size))
            have B10 := Lib.hid (B9.out.trans (c10.mono B9.out.size))
            have hbo2 := O9.lt
            clear c10 B9 R9 HU9 HH HO b9 B8 HU
            go_upto_region 11 with fail
            generalize w9.alloc (.cells #[.int .i64 c, .slice sa ms.length sc, .int .i64 rcv, .int .i64 hi] 29) = w10 at *
            generalize w9.heap.size = bx at *
            obtain ⟨x0, x1, x2, x3⟩ := F9.cells
            obtain ⟨c0, c1, c2, c3⟩ := H.four.cells
            have f0 := H.four.frozen 0
            have f1 := H.four.frozen 1
            have f2 := H.four.frozen 2
            have f3 := H.four.frozen 3
            have G := grown_four w10 bw (.int .i64 c) (.slice sa ms.length sc) (.int .i64 rcv) (.int .i64 hi)
            have O10 := Lib.hid (O9.kept G (fun e => by have := Option.some.inj e; omega))
            have H6 : Both w.heap.size w.heap.size bw c q rcv hi (.slice sa ms.length sc) ms rcv hi ((((w10.setCell ⟨bw, 0, none⟩ (.int .i64 c)).setCell ⟨bw, 1, none⟩ (.slice sa ms.length sc)).setCell ⟨bw, 2, none⟩ (.int .i64 rcv)).setCell ⟨bw, 3, none⟩ (.int .i64 hi)) := H.refs H.sent (Nat.lt_succ_self _) (fun k hk => (H.ring k hk).2)
            have HU11 := Lib.hid (HU10.out.below ((below_four w10 bw (.int .i64 c) (.slice sa ms.length sc) (.int .i64 rcv) (.int .i64 hi)).mono (Nat.le_of_lt H.ord)))
            have B11 := Lib.hid (B10.out.trans ((below_four w10 bw (.int .i64 c) (.slice sa ms.length sc) (.int .i64 rcv) (.int .i64 hi)).mono (Nat.le_of_lt H.ord)))
            have HH := Lib.hid H6
            clear H H6 G O9 B10 HU10 F9
            go_upto_region 12 with fail
            clear x0 x1 x2 x3 c0 c1 c2 c3 f0 f1 f2 f3
            generalize ((((w10.setCell ⟨bw, 0, none⟩ (.int .i64 c)).setCell ⟨bw, 1, none⟩ (.slice sa ms.length sc)).setCell ⟨bw, 2, none⟩ (.int .i64 rcv)).setCell ⟨bw, 3, none⟩ (.int .i64 hi)) = w11 at *
            have o1 := O10.out.cell (j := 1) rfl
            have o2 := O10.out.cell (j := 2) rfl
            have o3 := O10.out.cell (j := 3) rfl
            have o4 := O10.out.cell (j := 4) rfl
            have o5 := O10.out.cell (j := 5) rfl
            have o6 := O10.out.cell (j := 6) rfl
            have hlt11 := HH.out.link.lt
            go_wp2_with fail
            clear o1 o2 o3 o4 o5 o6
            refine (send_full w.heap.size c rcv hi q ⟨ta, tb, tc, td, te⟩ (.slice va zs.length vc) w11 HH.out.link (HBD.out.ok (by omega) hc2) (by have := HH.out.link.le; omega)).mono ?_
            rintro e w12 ⟨rfl, b12⟩
            have HH12 := Lib.hid (HH.out.later b12)
            have B12 := Lib.hid (B11.out.trans (b12.mono B11.out.size))
            clear b12 HH B11 HU11 O10
            have HH := HH12
            clear HH12
            go_upto_region 23 with fail
            have HBD2 := Lib.hid HBD.out.next
            obtain ⟨c0, c1, c2, c3⟩ := HH.out.four.cells
            have HSM := Lib.hid (same18_any w.heap.size c rcv hi q (.slice sa ms.length sc) ms HBD2.out.hq HBD2.out.len (by have := HBD2.out.le; omega) w12 HH.out.link (HBD2.out.ok (by omega) hc2) (HH.out.sent.msgs B12.out.size))
            go_wp2_with fail
            refine HSM.out.mono ?_
            rintro e wz ⟨rfl, bz⟩
            have HZZ := Lib.hid (HH.out.later bz)
            have BZ := Lib.hid (B12.out.trans (bz.mono B12.out.size))
            clear HH B12 bz HSM c0 c1 c2 c3
            go_wp2_with fail
            go_roundw
            case rel => exact ⟨j + 1, _, _, _, _, _, by omega, by go_num, HZZ.out, HBD2.out, BZ.out⟩
            case measure => simp [intOf]; omega
        · have hk1 : (kd == 0) = false := by simpa using hk0
          have c9 := (Below.refl w8.heap.size w8).alloc (Nat.le_refl _) (.cells #[.int .i64 ta, .int .i64 tb, .int .i64 tc, .int .i64 td, .int .i64 te] 31)
          have T := Five.new w8 31 (.int .i64 ta) (.int .i64 tb) (.int .i64 tc) (.int .i64 td) (.int .i64 te)
          have hbt : bw < w8.heap.size := HH.out.four.lt
          have H := HH.out.later c9
          have O9 := HO.out.later c9
          have HB9 := Lib.hid (B8.out.trans (c9.mono B8.out.size))
          have o1 := HO.out.cell (j := 1) rfl
          have o2 := HO.out.cell (j := 2) rfl
          have o3 := HO.out.cell (j := 3) rfl
          have o4 := HO.out.cell (j := 4) rfl
          have o5 := HO.out.cell (j := 5) rfl
          go_upto_region 15 with fail
          clear o0 o1 o2 o3 o4 o5 HH HO HU B8 c9
          generalize w8.alloc (.cells #[.int .i64 ta, .int .i64 tb, .int .i64 tc, .int .i64 td, .int .i64 te] 31) = w9 at *
          generalize w8.heap.size = bt at *
          have HRM := refMessages_any c (.slice sa ms.length sc) ms rcv hi (by have := HBD.out.le; omega) (by have := HBD.out.len; omega) w9 (H.sent.msgs HB9.out.size)
          rw [← HBD.out.hq] at HRM
          obtain ⟨c0, c1, c2, c3⟩ := H.four.cells
          have HH9 := Lib.hid H
          have HT9 := Lib.hid T
          clear H T
          go_wp2_with fail
          refine HRM.mono ?_
          clear HRM c0 c1 c2 c3
          rintro e w10 ⟨mu, rfl, hmu, b10⟩
          have HH := Lib.hid (HH9.out.later b10)
          have HT := Lib.hid (HT9.out.later b10)
          have B10 := Lib.hid (HB9.out.trans (b10.mono HB9.out.size))
          have o7 := (O9.later b10).cell (j := 7) rfl
          clear HH9 HT9 HB9 b10 O9
          obtain ⟨ma, mc, rfl⟩ := hmu.value
          cases fi with
          | false =>
            go_upto_region 18 with fail
            clear o7
            cases q with
            | nil =>
              clear hmu
              obtain rfl : rcv = ms.length := by have := HBD.out.len; simpa using this.symm
              obtain ⟨t0, t1, t2, t3, t4⟩ := HT.out.cells
              have hbtl := HT.out.lt
              have hbwl := HH.out.ord
              go_wp2_with fail
              clear t0 t1 t2 t3 t4
              refine (recv_empty w.heap.size c ms.length hi ⟨ta, tb, tc, td, te⟩ w10 HH.out.link (HBD.out.ok (by omega) hc2)).mono ?_
              rintro e w20 ⟨rfl, b20⟩
              have H := HH.out.later b20
              have T := HT.out.later b20
              have B20 := Lib.hid (B10.out.trans (b20.mono B10.out.size))
              clear b20 HH HT B10
              have c21 := (Below.refl w20.heap.size w20).alloc (Nat.le_refl _) (.cells #[.int .i64 0, .int .i64 0, .int .i64 0, .int .i64 0, .int .i64 0, .slice none 0 0] 34)
              have S1 := Six.new w20 34 (.int .i64 0) (.int .i64 0) (.int .i64 0) (.int .i64 0) (.int .i64 0) (.slice none 0 0)
              have hbm := H.four.lt
              replace H := H.later c21
              replace T := T.later c21
              have B21 := Lib.hid (B20.out.trans (c21.mono B20.out.size))
              clear c21 B20
              have HH := Lib.hid H
              have HS1 := Lib.hid S1
              obtain ⟨c0, c1, c2, c3⟩ := H.four.cells
              obtain ⟨t0, t1, t2, t3, t4⟩ := T.cells
              clear H S1 T
              go_upto_region 19 with fail
              generalize w20.alloc (.cells #[.int .i64 0, .int .i64 0, .int .i64 0, .int .i64 0, .int .i64 0, .slice none 0 0] 34) = w21 at *
              generalize w20.heap.size = bm at *
              go_wp2_with fail
              refine (refRecv_empty c sa ms.length sc hi ⟨ta, tb, tc, td, te⟩ (by have := HBD.out.le; omega) w21).mono ?_
              rintro e w22 ⟨rfl, b22⟩
              unfold encL
              clear c0 c1 c2 c3 t0 t1 t2 t3 t4
              have H := HH.out.later b22
              have S1 := HS1.out.later b22
              have B22 := Lib.hid (B21.out.trans (b22.mono B21.out.size))
              have F9 := Four.new w22 29 (.int .i64 c) (.slice sa ms.length sc) (.int .i64 ms.length) (.int .i64 hi)
              have hbm2 := S1.lt
              have c23 := (Below.refl w22.heap.size w22).alloc (Nat.le_refl _) (.cells #[.int .i64 c, .slice sa ms.length sc, .int .i64 ms.length, .int .i64 hi] 29)
              have c24 := (Below.refl (w22.alloc (.cells #[.int .i64 c, .slice sa ms.length sc, .int .i64 ms.length, .int .i64 hi] 29)).heap.size (w22.alloc (.cells #[.int .i64 c, .slice sa ms.length sc, .int .i64 ms.length, .int .i64 hi] 29))).alloc (Nat.le_refl _) (.cells #[.int .i64 0, .int .i64 0, .int .i64 0, .int .i64 0, .int .i64 0, .slice none 0 0] 34)
              have S2 := Six.new (w22.alloc (.cells #[.int .i64 c, .slice sa ms.length sc, .int .i64 ms.length, .int .i64 hi] 29)) 34 (.int .i64 0) (.int .i64 0) (.int .i64 0) (.int .i64 0) (.int .i64 0) (.slice none 0 0)
              rw [World.size_alloc] at S2
              have hbx : bm < w22.heap.size := hbm2
              have c25 := c23.trans (c24.mono (by simp))
              replace F9 := F9.later c24
              replace S1 := S1.later c25
              replace H := H.later c25
              have B24 := Lib.hid (B22.out.trans (c25.mono B22.out.size))
              clear c23 c24 c25 b22 HH HS1 B21 B22 hbm2
              go_upto_region 20 with fail
              generalize (w22.alloc (.cells #[.int .i64 c, .slice sa ms.length sc, .int .i64 ms.length, .int .i64 hi] 29)).alloc (.cells #[.int .i64 0, .int .i64 0, .int .i64 0, .int .i64 0, .int .i64 0, .slice none 0 0] 34) = w24 at *
              generalize w22.heap.size = bx at *
              obtain ⟨x0, x1, x2, x3⟩ := F9.cells
              obtain ⟨c0, c1, c2, c3⟩ := H.four.cells
              have f0 := H.four.frozen 0
              have f1 := H.four.frozen 1
              have f2 := H.four.frozen 2
              have f3 := H.four.frozen 3
              have G := grown_four w24 bw (.int .i64 c) (.slice sa ms.length sc) (.int .i64 ms.length) (.int .i64 hi)
              replace S1 := S1.kept G (fun e => by have := Option.some.inj e; omega)
              replace S2 := S2.kept G (fun e => by have := Option.some.inj e; omega)
              have H6 : Both w.heap.size w.heap.size bw c [] ms.length hi (.slice sa ms.length sc) ms ms.length hi ((((w24.setCell ⟨bw, 0, none⟩ (.int .i64 c)).setCell ⟨bw, 1, none⟩ (.slice sa ms.length sc)).setCell ⟨bw, 2, none⟩ (.int .i64 ms.length)).setCell ⟨bw, 3, none⟩ (.int .i64 hi)) := H.refs (rr' := ms.length) (pk' := hi) H.sent (Nat.lt_succ_self _) (fun k hk => (H.ring k hk).2)
              have B25 := Lib.hid (B24.out.trans ((below_four w24 bw (.int .i64 c) (.slice sa ms.length sc) (.int .i64 ms.length) (.int .i64 hi)).mono (Nat.le_of_lt H.ord)))
              have HH := Lib.hid H6
              have HS1 := Lib.hid S1
              have HS2 := Lib.hid S2
              clear H H6 G F9 S1 S2 B24
              go_upto_region 21 with fail
              clear x0 x1 x2 x3 c0 c1 c2 c3 f0 f1 f2 f3
              generalize ((((w24.setCell ⟨bw, 0, none⟩ (.int .i64 c)).setCell ⟨bw, 1, none⟩ (.slice sa ms.length sc)).setCell ⟨bw, 2, none⟩ (.int .i64 ms.length)).setCell ⟨bw, 3, none⟩ (.int .i64 hi)) = w25 at *
              obtain ⟨⟨x0, x1, x2⟩, x3, x4, x5⟩ := HS1.out.cells
              obtain ⟨⟨y0, y1, y2⟩, y3, y4, y5⟩ := HS2.out.cells
              have HSS := Lib.hid (refSameM_any ⟨0, 0, 0, 0, 0⟩ ⟨0, 0, 0, 0, 0⟩ (.slice none 0 0) (.slice none 0 0) [] [] (by decide) (by decide) w25 (.inr IntsAt.nil) (.inr IntsAt.nil))
              rw [sameM_refl] at HSS
              go_wp2_with fail
              refine HSS.out.mono ?_
              rintro e w26 ⟨rfl, b26⟩
              have HH26 := Lib.hid (HH.out.later b26)
              have B26 := Lib.hid (B25.out.trans (b26.mono B25.out.size))
              clear HH B25 b26 HSS x0 x1 x2 x3 x4 x5 y0 y1 y2 y3 y4 y5 HS1 HS2
              have HH := HH26
              clear HH26
              go_upto_region 23 with fail
              have HBD2 := Lib.hid HBD.out.next
              obtain ⟨c0, c1, c2, c3⟩ := HH.out.four.cells
              have HSM := Lib.hid (same18_any w.heap.size c ms.length hi [] (.slice sa ms.length sc) ms HBD2.out.hq HBD2.out.len (by have := HBD2.out.le; omega) w26 HH.out.link (HBD2.out.ok (by omega) hc2) (HH.out.sent.msgs B26.out.size))
              go_wp2_with fail
              refine HSM.out.mono ?_
              rintro e wz ⟨rfl, bz⟩
              have HZZ := Lib.hid (HH.out.later bz)
              have BZ := Lib.hid (B26.out.trans (bz.mono B26.out.size))
              clear HH B26 bz HSM c0 c1 c2 c3
              go_wp2_with fail
              go_roundw
              case rel => exact ⟨j + 1, _, _, _, _, _, by omega, by go_num, HZZ.out, HBD2.out, BZ.out⟩
              case measure => simp [intOf]; omega
            | cons m0 q' =>
              clear hmu
              obtain ⟨⟨ga, gb, gc, gd, ge⟩, gz⟩ := m0
              by_cases ht : (⟨ga, gb, gc, gd, ge⟩ : Tg) = ⟨ta, tb, tc, td, te⟩
              · simp only [Tg.mk.injEq] at ht
                obtain ⟨rfl, rfl, rfl, rfl, rfl⟩ := ht
                obtain ⟨t0, t1, t2, t3, t4⟩ := HT.out.cells
                have hbtl := HT.out.lt
                have hbwl := HH.out.ord
                go_wp2_with fail
                clear t0 t1 t2 t3 t4
                refine (recv_ok w.heap.size c rcv hi (⟨⟨ga, gb, gc, gd, ge⟩, gz⟩ : Ms) q' w10 HH.out.link (HBD.out.ok (by omega) hc2)).mono ?_
                rintro e w20 ⟨v20, rfl, o20, l20, t20, r20⟩
                dsimp only at o20
                obtain ⟨ra, rc, rfl⟩ := own_value o20
                obtain ⟨r1, hr1⟩ : ∃ r1, r1 = rcv + 1 := ⟨_, rfl⟩
                rw [← hr1] at l20
                have HR1 := Lib.hid hr1
                clear hr1
                have H := HH.out.touch l20 t20 (.inl r20)
                have T : Five w20 bt 31 (.int .i64 ga) (.int .i64 gb) (.int .i64 gc) (.int .i64 gd) (.int .i64 ge) := Blk.touch (cs := #[.int .i64 ga, .int .i64 gb, .int .i64 gc, .int .i64 gd, .int .i64 ge]) HT.out HH.out.link t20 (by omega) (by decide)
                have B20 := Lib.hid (B10.out.trans t20.1)
                clear l20 t20 r20 HH HT B10
                unfold encM
                dsimp only
                have c21 := (Below.refl w20.heap.size w20).alloc (Nat.le_refl _) (.cells #[.int .i64 ga, .int .i64 gb, .int .i64 gc, .int .i64 gd, .int .i64 ge, .slice ra gz.length rc] 34)
                have S1 := Six.new w20 34 (.int .i64 ga) (.int .i64 gb) (.int .i64 gc) (.int .i64 gd) (.int .i64 ge) (.slice ra gz.length rc)
                have hbm := H.four.lt
                replace H := H.later c21
                replace T := T.later c21
                replace o20 := own_below o20 c21
                have B21 := Lib.hid (B20.out.trans (c21.mono B20.out.size))
                clear c21 B20
                have HH := Lib.hid H
                have HS1 := Lib.hid S1
                obtain ⟨c0, c1, c2, c3⟩ := H.four.cells
                obtain ⟨t0, t1, t2, t3, t4⟩ := T.cells
                clear H S1 T
                go_upto_region 19 with fail
                generalize w20.alloc (.cells #[.int .i64 ga, .int .i64 gb, .int .i64 gc, .int .i64 gd, .int .i64 ge, .slice ra gz.length rc] 34) = w21 at *
                generalize w20.heap.size = bm at *
                go_wp2_with fail
                have HRF := refRecv_okN c (.slice sa ms.length sc) ms rcv hi (⟨⟨ga, gb, gc, gd, ge⟩, gz⟩ : Ms) w.heap.size (by have := HBD.out.le; omega) HBD.out.head w21 B21.out.size HH.out.sent.msgsN
                rw [← HR1.out] at HRF
                refine HRF.mono ?_
                clear HRF
                rintro e w22 ⟨u22, rfl, i22, b22⟩
                obtain ⟨ya, yc, rfl⟩ := i22.value
                unfold encM
                dsimp only at i22 ⊢
                replace o20 := own_below o20 b22
                unfold encL
                clear c0 c1 c2 c3 t0 t1 t2 t3 t4
                have H := HH.out.later b22
                have S1 := HS1.out.later b22
                have B22 := Lib.hid (B21.out.trans (b22.mono B21.out.size))
                have F9 := Four.new w22 29 (.int .i64 c) (.slice sa ms.length sc) (.int .i64 r1) (.int .i64 hi)
                have hbm2 := S1.lt
                have c23 := (Below.refl w22.heap.size w22).alloc (Nat.le_refl _) (.cells #[.int .i64 c, .slice sa ms.length sc, .int .i64 r1, .int .i64 hi] 29)
                have c24 := (Below.refl (w22.alloc (.cells #[.int .i64 c, .slice sa ms.length sc, .int .i64 r1, .int .i64 hi] 29)).heap.size (w22.alloc (.cells #[.int .i64 c, .slice sa ms.length sc, .int .i64 r1, .int .i64 hi] 29))).alloc (Nat.le_refl _) (.cells #[.int .i64 ga, .int .i64 gb, .int .i64 gc, .int .i64 gd, .int .i64 ge, .slice ya gz.length yc] 34)
                have S2 := Six.new (w22.alloc (.cells #[.int .i64 c, .slice sa ms.length sc, .int .i64 r1, .int .i64 hi] 29)) 34 (.int .i64 ga) (.int .i64 gb) (.int .i64 gc) (.int .i64 gd) (.int .i64 ge) (.slice ya gz.length yc)
                rw [World.size_alloc] at S2
                have hbx : bm < w22.heap.size := hbm2
                have c25 := c23.trans (c24.mono (by simp))
                replace F9 := F9.later c24
                replace S1 := S1.later c25
                replace H := H.later c25
                have B24 := Lib.hid (B22.out.trans (c25.mono B22.out.size))
                replace o20 := own_below o20 c25
                replace i22 := i22.below (c25.mono B22.out.size)
                clear c23 c24 c25 b22 HH HS1 B21 B22 hbm2
                go_upto_region 20 with fail
                generalize (w22.alloc (.cells #[.int .i64 c, .slice sa ms.length sc, .int .i64 r1, .int .i64 hi] 29)).alloc (.cells #[.int .i64 ga, .int .i64 gb, .int .i64 gc, .int .i64 gd, .int .i64 ge, .slice ya gz.length yc] 34) = w24 at *
                generalize w22.heap.size = bx at *
                obtain ⟨x0, x1, x2, x3⟩ := F9.cells
                obtain ⟨c0, c1, c2, c3⟩ := H.four.cells
                have f0 := H.four.frozen 0
                have f1 := H.four.frozen 1
                have f2 := H.four.frozen 2
                have f3 := H.four.frozen 3
                have G := grown_four w24 bw (.int .i64 c) (.slice sa ms.length sc) (.int .i64 r1) (.int .i64 hi)
                replace S1 := S1.kept G (fun e => by have := Option.some.inj e; omega)
                replace S2 := S2.kept G (fun e => by have := Option.some.inj e; omega)
                have H6 : Both w.heap.size w.heap.size bw c q' r1 hi (.slice sa ms.length sc) ms r1 hi ((((w24.setCell ⟨bw, 0, none⟩ (.int .i64 c)).setCell ⟨bw, 1, none⟩ (.slice sa ms.length sc)).setCell ⟨bw, 2, none⟩ (.int .i64 r1)).setCell ⟨bw, 3, none⟩ (.int .i64 hi)) := H.refs (rr' := r1) (pk' := hi) H.sent (Nat.lt_succ_self _) (fun k hk => (H.ring k hk).2)
                replace o20 := o20.kept G (H.four.not_row o20 (by decide))
                replace i22 := i22.below ((below_four w24 bw (.int .i64 c) (.slice sa ms.length sc) (.int .i64 r1) (.int .i64 hi)).mono (Nat.le_of_lt H.ord))
                have B25 := Lib.hid (B24.out.trans ((below_four w24 bw (.int .i64 c) (.slice sa ms.length sc) (.int .i64 r1) (.int .i64 hi)).mono (Nat.le_of_lt H.ord)))
                have HH := Lib.hid H6
                have HS1 := Lib.hid S1
                have HS2 := Lib.hid S2
                clear H H6 G F9 S1 S2 B24
                go_upto_region 21 with fail
                clear x0 x1 x2 x3 c0 c1 c2 c3 f0 f1 f2 f3
                generalize ((((w24.setCell ⟨bw, 0, none⟩ (.int .i64 c)).setCell ⟨bw, 1, none⟩ (.slice sa ms.length sc)).setCell ⟨bw, 2, none⟩ (.int .i64 r1)).setCell ⟨bw, 3, none⟩ (.int .i64 hi)) = w25 at *
                obtain ⟨⟨x0, x1, x2⟩, x3, x4, x5⟩ := HS1.out.cells
                obtain ⟨⟨y0, y1, y2⟩, y3, y4, y5⟩ := HS2.out.cells
                have hgz := HBD.out.z _ (List.mem_of_getElem? HBD.out.head)
                dsimp only at hgz
                have HSS := Lib.hid (refSameM_any ⟨ga, gb, gc, gd, ge⟩ ⟨ga, gb, gc, gd, ge⟩ (.slice ra gz.length rc) (.slice ya gz.length yc) gz gz hgz hgz w25 (.inr (ints_own o20)) (i22.grow B25.out.size))
                clear o20 i22
                rw [sameM_refl] at HSS
                go_wp2_with fail
                refine HSS.out.mono ?_
                rintro e w26 ⟨rfl, b26⟩
                have HH26 := Lib.hid (HH.out.later b26)
                have B26 := Lib.hid (B25.out.trans (b26.mono B25.out.size))
                clear HH B25 b26 HSS x0 x1 x2 x3 x4 x5 y0 y1 y2 y3 y4 y5 HS1 HS2
                have HH := HH26
                clear HH26
                go_upto_region 23 with fail
                have HBD2 := Lib.hid (show LinkBd c q' r1 hi ms (j + 1) from by rw [HR1.out]; exact HBD.out.recv)
                obtain ⟨c0, c1, c2, c3⟩ := HH.out.four.cells
                have HSM := Lib.hid (same18_any w.heap.size c r1 hi q' (.slice sa ms.length sc) ms HBD2.out.hq HBD2.out.len (by have := HBD2.out.le; omega) w26 HH.out.link (HBD2.out.ok (by omega) hc2) (HH.out.sent.msgs B26.out.size))
                go_wp2_with fail
                refine HSM.out.mono ?_
                rintro e wz ⟨rfl, bz⟩
                have HZZ := Lib.hid (HH.out.later bz)
                have BZ := Lib.hid (B26.out.trans (bz.mono B26.out.size))
                clear HH B26 bz HSM c0 c1 c2 c3
                go_wp2_with fail
                go_roundw
                case rel => exact ⟨j + 1, _, _, _, _, _, by omega, by go_num, HZZ.out, HBD2.out, BZ.out⟩
                case measure => simp [intOf]; omega
              · skip
                obtain ⟨t0, t1, t2, t3, t4⟩ := HT.out.cells
                have hbtl := HT.out.lt
                have hbwl := HH.out.ord
                go_wp2_with fail
                clear t0 t1 t2 t3 t4
                refine (recv_tag w.heap.size c rcv hi (⟨⟨ga, gb, gc, gd, ge⟩, gz⟩ : Ms) q' ⟨ta, tb, tc, td, te⟩ ht w10 HH.out.link (HBD.out.ok (by omega) hc2)).mono ?_
                rintro e w20 ⟨rfl, b20⟩
                have H := HH.out.later b20
                have T := HT.out.later b20
                have B20 := Lib.hid (B10.out.trans (b20.mono B10.out.size))
                clear b20 HH HT B10
                have c21 := (Below.refl w20.heap.size w20).alloc (Nat.le_refl _) (.cells #[.int .i64 0, .int .i64 0, .int .i64 0, .int .i64 0, .int .i64 0, .slice none 0 0] 34)
                have S1 := Six.new w20 34 (.int .i64 0) (.int .i64 0) (.int .i64 0) (.int .i64 0) (.int .i64 0) (.slice none 0 0)
                have hbm := H.four.lt
                replace H := H.later c21
                replace T := T.later c21
                have B21 := Lib.hid (B20.out.trans (c21.mono B20.out.size))
                clear c21 B20
                have HH := Lib.hid H
                have HS1 := Lib.hid S1
                obtain ⟨c0, c1, c2, c3⟩ := H.four.cells
                obtain ⟨t0, t1, t2, t3, t4⟩ := T.cells
                clear H S1 T
                go_upto_region 19 with fail
                generalize w20.alloc (.cells #[.int .i64 0, .int .i64 0, .int .i64 0, .int .i64 0, .int .i64 0, .slice none 0 0] 34) = w21 at *
                generalize w20.heap.size = bm at *
                go_wp2_with fail
                refine (refRecv_tag c (.slice sa ms.length sc) ms rcv hi (⟨⟨ga, gb, gc, gd, ge⟩, gz⟩ : Ms) ⟨ta, tb, tc, td, te⟩ ht (by have := HBD.out.le; omega) HBD.out.head w21 (HH.out.sent.msgs B21.out.size)).mono ?_
                rintro e w22 ⟨rfl, b22⟩
                unfold encL
                clear c0 c1 c2 c3 t0 t1 t2 t3 t4
                have H := HH.out.later b22
                have S1 := HS1.out.later b22
                have B22 := Lib.hid (B21.out.trans (b22.mono B21.out.size))
                have F9 := Four.new w22 29 (.int .i64 c) (.slice sa ms.length sc) (.int .i64 rcv) (.int .i64 hi)
                have hbm2 := S1.lt
                have c23 := (Below.refl w22.heap.size w22).alloc (Nat.le_refl _) (.cells #[.int .i64 c, .slice sa ms.length sc, .int .i64 rcv, .int .i64 hi] 29)
                have c24 := (Below.refl (w22.alloc (.cells #[.int .i64 c, .slice sa ms.length sc, .int .i64 rcv, .int .i64 hi] 29)).heap.size (w22.alloc (.cells #[.int .i64 c, .slice sa ms.length sc, .int .i64 rcv, .int .i64 hi] 29))).alloc (Nat.le_refl _) (.cells #[.int .i64 0, .int .i64 0, .int .i64 0, .int .i64 0, .int .i64 0, .slice none 0 0] 34)
                have S2 := Six.new (w22.alloc (.cells #[.int .i64 c, .slice sa ms.length sc, .int .i64 rcv, .int .i64 hi] 29)) 34 (.int .i64 0) (.int .i64 0) (.int .i64 0) (.int .i64 0) (.int .i64 0) (.slice none 0 0)
                rw [World.size_alloc] at S2
                have hbx : bm < w22.heap.size := hbm2
                have c25 := c23.trans (c24.mono (by simp))
                replace F9 := F9.later c24
                replace S1 := S1.later c25
                replace H := H.later c25
                have B24 := Lib.hid (B22.out.trans (c25.mono B22.out.size))
                clear c23 c24 c25 b22 HH HS1 B21 B22 hbm2
                go_upto_region 20 with fail
                generalize (w22.alloc (.cells #[.int .i64 c, .slice sa ms.length sc, .int .i64 rcv, .int .i64 hi] 29)).alloc (.cells #[.int .i64 0, .int .i64 0, .int .i64 0, .int .i64 0, .int .i64 0, .slice none 0 0] 34) = w24 at *
                generalize w22.heap.size = bx at *
                obtain ⟨x0, x1, x2, x3⟩ := F9.cells
                obtain ⟨c0, c1, c2, c3⟩ := H.four.cells
                have f0 := H.four.frozen 0
                have f1 := H.four.frozen 1
                have f2 := H.four.frozen 2
                have f3 := H.four.frozen 3
                have G := grown_four w24 bw (.int .i64 c) (.slice sa ms.length sc) (.int .i64 rcv) (.int .i64 hi)
                replace S1 := S1.kept G (fun e => by have := Option.some.inj e; omega)
                replace S2 := S2.kept G (fun e => by have := Option.some.inj e; omega)
                have H6 : Both w.heap.size w.heap.size bw c ((⟨⟨ga, gb, gc, gd, ge⟩, gz⟩ : Ms) :: q') rcv hi (.slice sa ms.length sc) ms rcv hi ((((w24.setCell ⟨bw, 0, none⟩ (.int .i64 c)).setCell ⟨bw, 1, none⟩ (.slice sa ms.length sc)).setCell ⟨bw, 2, none⟩ (.int .i64 rcv)).setCell ⟨bw, 3, none⟩ (.int .i64 hi)) := H.refs (rr' := rcv) (pk' := hi) H.sent (Nat.lt_succ_self _) (fun k hk => (H.ring k hk).2)
                have B25 := Lib.hid (B24.out.trans ((below_four w24 bw (.int .i64 c) (.slice sa ms.length sc) (.int .i64 rcv) (.int .i64 hi)).mono (Nat.le_of_lt H.ord)))
                have HH := Lib.hid H6
                have HS1 := Lib.hid S1
                have HS2 := Lib.hid S2
                clear H H6 G F9 S1 S2 B24
                go_upto_region 21 with fail
                clear x0 x1 x2 x3 c0 c1 c2 c3 f0 f1 f2 f3
                generalize ((((w24.setCell ⟨bw, 0, none⟩ (.int .i64 c)).setCell ⟨bw, 1, none⟩ (.slice sa ms.length sc)).setCell ⟨bw, 2, none⟩ (.int .i64 rcv)).setCell ⟨bw, 3, none⟩ (.int .i64 hi)) = w25 at *
                obtain ⟨⟨x0, x1, x2⟩, x3, x4, x5⟩ := HS1.out.cells
                obtain ⟨⟨y0, y1, y2⟩, y3, y4, y5⟩ := HS2.out.cells
                have HSS := Lib.hid (refSameM_any ⟨0, 0, 0, 0, 0⟩ ⟨0, 0, 0, 0, 0⟩ (.slice none 0 0) (.slice none 0 0) [] [] (by decide) (by decide) w25 (.inr IntsAt.nil) (.inr IntsAt.nil))
                rw [sameM_refl] at HSS
                go_wp2_with fail
                refine HSS.out.mono ?_
                rintro e w26 ⟨rfl, b26⟩
                have HH26 := Lib.hid (HH.out.later b26)
                have B26 := Lib.hid (B25.out.trans (b26.mono B25.out.size))
                clear HH B25 b26 HSS x0 x1 x2 x3 x4 x5 y0 y1 y2 y3 y4 y5 HS1 HS2
                have HH := HH26
                clear HH26
                go_upto_region 23 with fail
                have HBD2 := Lib.hid HBD.out.next
                obtain ⟨c0, c1, c2, c3⟩ := HH.out.four.cells
                have HSM := Lib.hid (same18_any w.heap.size c rcv hi ((⟨⟨ga, gb, gc, gd, ge⟩, gz⟩ : Ms) :: q') (.slice sa ms.length sc) ms HBD2.out.hq HBD2.out.len (by have := HBD2.out.le; omega) w26 HH.out.link (HBD2.out.ok (by omega) hc2) (HH.out.sent.msgs B26.out.size))
                go_wp2_with fail
                refine HSM.out.mono ?_
                rintro e wz ⟨rfl, bz⟩
                have HZZ := Lib.hid (HH.out.later bz)
                have BZ := Lib.hid (B26.out.trans (bz.mono B26.out.size))
                clear HH B26 bz HSM c0 c1 c2 c3
                go_wp2_with fail
                go_roundw
                case rel => exact ⟨j + 1, _, _, _, _, _, by omega, by go_num, HZZ.out, HBD2.out, BZ.out⟩
                case measure => simp [intOf]; omega
          | true =>
            cases q with
            | nil =>
              go_upto_region 18 with fail
              clear hmu o7
              obtain rfl : rcv = ms.length := by have := HBD.out.len; simpa using this.symm
              obtain ⟨t0, t1, t2, t3, t4⟩ := HT.out.cells
              have hbtl := HT.out.lt
              have hbwl := HH.out.ord
              go_wp2_with fail
              clear t0 t1 t2 t3 t4
              refine (recv_empty w.heap.size c ms.length hi ⟨ta, tb, tc, td, te⟩ w10 HH.out.link (HBD.out.ok (by omega) hc2)).mono ?_
              rintro e w20 ⟨rfl, b20⟩
              have H := HH.out.later b20
              have T := HT.out.later b20
              have B20 := Lib.hid (B10.out.trans (b20.mono B10.out.size))
              clear b20 HH HT B10
              have c21 := (Below.refl w20.heap.size w20).alloc (Nat.le_refl _) (.cells #[.int .i64 0, .int .i64 0, .int .i64 0, .int .i64 0, .int .i64 0, .slice none 0 0] 34)
              have S1 := Six.new w20 34 (.int .i64 0) (.int .i64 0) (.int .i64 0) (.int .i64 0) (.int .i64 0) (.slice none 0 0)
              have hbm := H.four.lt
              replace H := H.later c21
              replace T := T.later c21
              have B21 := Lib.hid (B20.out.trans (c21.mono B20.out.size))
              clear c21 B20
              have HH := Lib.hid H
              have HS1 := Lib.hid S1
              obtain ⟨c0, c1, c2, c3⟩ := H.four.cells
              obtain ⟨t0, t1, t2, t3, t4⟩ := T.cells
              clear H S1 T
              go_upto_region 19 with fail
              generalize w20.alloc (.cells #[.int .i64 0, .int .i64 0, .int .i64 0, .int .i64 0, .int .i64 0, .slice none 0 0] 34) = w21 at *
              generalize w20.heap.size = bm at *
              go_wp2_with fail
              refine (refRecv_empty c sa ms.length sc hi ⟨ta, tb, tc, td, te⟩ (by have := HBD.out.le; omega) w21).mono ?_
              rintro e w22 ⟨rfl, b22⟩
              unfold encL
              clear c0 c1 c2 c3 t0 t1 t2 t3 t4
              have H := HH.out.later b22
              have S1 := HS1.out.later b22
              have B22 := Lib.hid (B21.out.trans (b22.mono B21.out.size))
              have F9 := Four.new w22 29 (.int .i64 c) (.slice sa ms.length sc) (.int .i64 ms.length) (.int .i64 hi)
              have hbm2 := S1.lt
              have c23 := (Below.refl w22.heap.size w22).alloc (Nat.le_refl _) (.cells #[.int .i64 c, .slice sa ms.length sc, .int .i64 ms.length, .int .i64 hi] 29)
              have c24 := (Below.refl (w22.alloc (.cells #[.int .i64 c, .slice sa ms.length sc, .int .i64 ms.length, .int .i64 hi] 29)).heap.size (w22.alloc (.cells #[.int .i64 c, .slice sa ms.length sc, .int .i64 ms.length, .int .i64 hi] 29))).alloc (Nat.le_refl _) (.cells #[.int .i64 0, .int .i64 0, .int .i64 0, .int .i64 0, .int .i64 0, .slice none 0 0] 34)
              have S2 := Six.new (w22.alloc (.cells #[.int .i64 c, .slice sa ms.length sc, .int .i64 ms.length, .int .i64 hi] 29)) 34 (.int .i64 0) (.int .i64 0) (.int .i64 0) (.int .i64 0) (.int .i64 0) (.slice none 0 0)
              rw [World.size_alloc] at S2
              have hbx : bm < w22.heap.size := hbm2
              have c25 := c23.trans (c24.mono (by simp))
              replace F9 := F9.later c24
              replace S1 := S1.later c25
              replace H := H.later c25
              have B24 := Lib.hid (B22.out.trans (c25.mono B22.out.size))
              clear c23 c24 c25 b22 HH HS1 B21 B22 hbm2
              go_upto_region 20 with fail
              generalize (w22.alloc (.cells #[.int .i64 c, .slice sa ms.length sc, .int .i64 ms.length, .int .i64 hi] 29)).alloc (.cells #[.int .i64 0, .int .i64 0, .int .i64 0, .int .i64 0, .int .i64 0, .slice none 0 0] 34) = w24 at *
              generalize w22.heap.size = bx at *
              obtain ⟨x0, x1, x2, x3⟩ := F9.cells
              obtain ⟨c0, c1, c2, c3⟩ := H.four.cells
              have f0 := H.four.frozen 0
              have f1 := H.four.frozen 1
              have f2 := H.four.frozen 2
              have f3 := H.four.frozen 3
              have G := grown_four w24 bw (.int .i64 c) (.slice sa ms.length sc) (.int .i64 ms.length) (.int .i64 hi)
              replace S1 := S1.kept G (fun e => by have := Option.some.inj e; omega)
              replace S2 := S2.kept G (fun e => by have := Option.some.inj e; omega)
              have H6 : Both w.heap.size w.heap.size bw c [] ms.length hi (.slice sa ms.length sc) ms ms.length hi ((((w24.setCell ⟨bw, 0, none⟩ (.int .i64 c)).setCell ⟨bw, 1, none⟩ (.slice sa ms.length sc)).setCell ⟨bw, 2, none⟩ (.int .i64 ms.length)).setCell ⟨bw, 3, none⟩ (.int .i64 hi)) := H.refs (rr' := ms.length) (pk' := hi) H.sent (Nat.lt_succ_self _) (fun k hk => (H.ring k hk).2)
              have B25 := Lib.hid (B24.out.trans ((below_four w24 bw (.int .i64 c) (.slice sa ms.length sc) (.int .i64 ms.length) (.int .i64 hi)).mono (Nat.le_of_lt H.ord)))
              have HH := Lib.hid H6
              have HS1 := Lib.hid S1
              have HS2 := Lib.hid S2
              clear H H6 G F9 S1 S2 B24
              go_upto_region 21 with fail
              clear x0 x1 x2 x3 c0 c1 c2 c3 f0 f1 f2 f3
              generalize ((((w24.setCell ⟨bw, 0, none⟩ (.int .i64 c)).setCell ⟨bw, 1, none⟩ (.slice sa ms.length sc)).setCell ⟨bw, 2, none⟩ (.int .i64 ms.length)).setCell ⟨bw, 3, none⟩ (.int .i64 hi)) = w25 at *
              obtain ⟨⟨x0, x1, x2⟩, x3, x4, x5⟩ := HS1.out.cells
              obtain ⟨⟨y0, y1, y2⟩, y3, y4, y5⟩ := HS2.out.cells
              have HSS := Lib.hid (refSameM_any ⟨0, 0, 0, 0, 0⟩ ⟨0, 0, 0, 0, 0⟩ (.slice none 0 0) (.slice none 0 0) [] [] (by decide) (by decide) w25 (.inr IntsAt.nil) (.inr IntsAt.nil))
              rw [sameM_refl] at HSS
              go_wp2_with fail
              refine HSS.out.mono ?_
              rintro e w26 ⟨rfl, b26⟩
              have HH26 := Lib.hid (HH.out.later b26)
              have B26 := Lib.hid (B25.out.trans (b26.mono B25.out.size))
              clear HH B25 b26 HSS x0 x1 x2 x3 x4 x5 y0 y1 y2 y3 y4 y5 HS1 HS2
              have HH := HH26
              clear HH26
              go_upto_region 23 with fail
              have HBD2 := Lib.hid HBD.out.next
              obtain ⟨c0, c1, c2, c3⟩ := HH.out.four.cells
              have HSM := Lib.hid (same18_any w.heap.size c ms.length hi [] (.slice sa ms.length sc) ms HBD2.out.hq HBD2.out.len (by have := HBD2.out.le; omega) w26 HH.out.link (HBD2.out.ok (by omega) hc2) (HH.out.sent.msgs B26.out.size))
              go_wp2_with fail
              refine HSM.out.mono ?_
              rintro e wz ⟨rfl, bz⟩
              have HZZ := Lib.hid (HH.out.later bz)
              have BZ := Lib.hid (B26.out.trans (bz.mono B26.out.size))
              clear HH B26 bz HSM c0 c1 c2 c3
              go_wp2_with fail
              go_roundw
              case rel => exact ⟨j + 1, _, _, _, _, _, by omega, by go_num, HZZ.out, HBD2.out, BZ.out⟩
              case measure => simp [intOf]; omega
            | cons m0 q' =>
              obtain ⟨⟨ga, gb, gc, gd, ge⟩, gz⟩ := m0
              rcases hmu with ⟨_, h0⟩ | ⟨g2, off2, cp2, e0, _, hcm⟩
              · cases h0
              cases e0
              obtain ⟨u0, ⟨d0, d1, d2, d3, d4, d5⟩, _⟩ := hcm 0 _ rfl
              dsimp only at d0 d1 d2 d3 d4
              rw [Nat.zero_mul, Nat.add_zero] at d0 d1 d2 d3 d4
              clear d5 hcm
              have i2 : (0 : Int) < (((⟨⟨ga, gb, gc, gd, ge⟩, gz⟩ : Ms) :: q').length : Int) := by simp
              have i3 : decide ((0 : Int) < (((⟨⟨ga, gb, gc, gd, ge⟩, gz⟩ : Ms) :: q').length : Int)) = true := by simp
              generalize ((⟨⟨ga, gb, gc, gd, ge⟩, gz⟩ : Ms) :: q').length = lm at *
              go_upto_region 17 with fail
              obtain ⟨t0, t1, t2, t3, t4⟩ := HT.out.cells
              have f0 := HT.out.frozen 0
              have f1 := HT.out.frozen 1
              have f2 := HT.out.frozen 2
              have f3 := HT.out.frozen 3
              have f4 := HT.out.frozen 4
              have hbtl0 := HT.out.lt
              have G := (show w10.grownBy (((((w10.setCell ⟨bt, 0, none⟩ (.int .i64 ga)).setCell ⟨bt, 1, none⟩ (.int .i64 gb)).setCell ⟨bt, 2, none⟩ (.int .i64 gc)).setCell ⟨bt, 3, none⟩ (.int .i64 gd)).setCell ⟨bt, 4, none⟩ (.int .i64 ge)) (some bt) from grown_trans (grown_trans (grown_trans (grown_trans (grown_set _ _ _ _) (grown_set _ _ _ _)) (grown_set _ _ _ _)) (grown_set _ _ _ _)) (grown_set _ _ _ _))
              have HH11 := Lib.hid (HH.out.blk (t := 31) HT.out (by decide) (by decide) hbt G)
              have HT11 := Lib.hid (HT.out.store (.int .i64 ga) (.int .i64 gb) (.int .i64 gc) (.int .i64 gd) (.int .i64 ge))
              have B11 := Lib.hid (B10.out.trans ((below_five w10 bt (.int .i64 ga) (.int .i64 gb) (.int .i64 gc) (.int .i64 gd) (.int .i64 ge)).mono (by have := HH.out.ord; omega)))
              clear G
              go_upto_region 18 with fail
              clear o7 d0 d1 d2 d3 d4 t0 t1 t2 t3 t4 f0 f1 f2 f3 f4 i2 i3 HH HT B10
              generalize (((((w10.setCell ⟨bt, 0, none⟩ (.int .i64 ga)).setCell ⟨bt, 1, none⟩ (.int .i64 gb)).setCell ⟨bt, 2, none⟩ (.int .i64 gc)).setCell ⟨bt, 3, none⟩ (.int .i64 gd)).setCell ⟨bt, 4, none⟩ (.int .i64 ge)) = w11 at *
              have HH := HH11
              have HT := HT11
              clear HH11 HT11
              obtain ⟨t0, t1, t2, t3, t4⟩ := HT.out.cells
              have hbtl := HT.out.lt
              have hbwl := HH.out.ord
              go_wp2_with fail
              clear t0 t1 t2 t3 t4
              refine (recv_ok w.heap.size c rcv hi (⟨⟨ga, gb, gc, gd, ge⟩, gz⟩ : Ms) q' w11 HH.out.link (HBD.out.ok (by omega) hc2)).mono ?_
              rintro e w20 ⟨v20, rfl, o20, l20, t20, r20⟩
              dsimp only at o20
              obtain ⟨ra, rc, rfl⟩ := own_value o20
              obtain ⟨r1, hr1⟩ : ∃ r1, r1 = rcv + 1 := ⟨_, rfl⟩
              rw [← hr1] at l20
              have HR1 := Lib.hid hr1
              clear hr1
              have H := HH.out.touch l20 t20 (.inl r20)
              have T : Five w20 bt 31 (.int .i64 ga) (.int .i64 gb) (.int .i64 gc) (.int .i64 gd) (.int .i64 ge) := Blk.touch (cs := #[.int .i64 ga, .int .i64 gb, .int .i64 gc, .int .i64 gd, .int .i64 ge]) HT.out HH.out.link t20 (by omega) (by decide)
              have B20 := Lib.hid (B11.out.trans t20.1)
              clear l20 t20 r20 HH HT B11
              unfold encM
              dsimp only
              have c21 := (Below.refl w20.heap.size w20).alloc (Nat.le_refl _) (.cells #[.int .i64 ga, .int .i64 gb, .int .i64 gc, .int .i64 gd, .int .i64 ge, .slice ra gz.length rc] 34)
              have S1 := Six.new w20 34 (.int .i64 ga) (.int .i64 gb) (.int .i64 gc) (.int .i64 gd) (.int .i64 ge) (.slice ra gz.length rc)
              have hbm := H.four.lt
              replace H := H.later c21
              replace T := T.later c21
              replace o20 := own_below o20 c21
              have B21 := Lib.hid (B20.out.trans (c21.mono B20.out.size))
              clear c21 B20
              have HH := Lib.hid H
              have HS1 := Lib.hid S1
              obtain ⟨c0, c1, c2, c3⟩ := H.four.cells
              obtain ⟨t0, t1, t2, t3, t4⟩ := T.cells
              clear H S1 T
              go_upto_region 19 with fail
              generalize w20.alloc (.cells #[.int .i64 ga, .int .i64 gb, .int .i64 gc, .int .i64 gd, .int .i64 ge, .slice ra gz.length rc] 34) = w21 at *
              generalize w20.heap.size = bm at *
              go_wp2_with fail
              have HRF := refRecv_okN c (.slice sa ms.length sc) ms rcv hi (⟨⟨ga, gb, gc, gd, ge⟩, gz⟩ : Ms) w.heap.size (by have := HBD.out.le; omega) HBD.out.head w21 B21.out.size HH.out.sent.msgsN
              rw [← HR1.out] at HRF
              refine HRF.mono ?_
              clear HRF
              rintro e w22 ⟨u22, rfl, i22, b22⟩
              obtain ⟨ya, yc, rfl⟩ := i22.value
              unfold encM
              dsimp only at i22 ⊢
              replace o20 := own_below o20 b22
              unfold encL
              clear c0 c1 c2 c3 t0 t1 t2 t3 t4
              have H := HH.out.later b22
              have S1 := HS1.out.later b22
              have B22 := Lib.hid (B21.out.trans (b22.mono B21.out.size))
              have F9 := Four.new w22 29 (.int .i64 c) (.slice sa ms.length sc) (.int .i64 r1) (.int .i64 hi)
              have hbm2 := S1.lt
              have c23 := (Below.refl w22.heap.size w22).alloc (Nat.le_refl _) (.cells #[.int .i64 c, .slice sa ms.length sc, .int .i64 r1, .int .i64 hi] 29)
              have c24 := (Below.refl (w22.alloc (.cells #[.int .i64 c, .slice sa ms.length sc, .int .i64 r1, .int .i64 hi] 29)).heap.size (w22.alloc (.cells #[.int .i64 c, .slice sa ms.length sc, .int .i64 r1, .int .i64 hi] 29))).alloc (Nat.le_refl _) (.cells #[.int .i64 ga, .int .i64 gb, .int .i64 gc, .int .i64 gd, .int .i64 ge, .slice ya gz.length yc] 34)
              have S2 := Six.new (w22.alloc (.cells #[.int .i64 c, .slice sa ms.length sc, .int .i64 r1, .int .i64 hi] 29)) 34 (.int .i64 ga) (.int .i64 gb) (.int .i64 gc) (.int .i64 gd) (.int .i64 ge) (.slice ya gz.length yc)
              rw [World.size_alloc] at S2
              have hbx : bm < w22.heap.size := hbm2
              have c25 := c23.trans (c24.mono (by simp))
              replace F9 := F9.later c24
              replace S1 := S1.later c25
              replace H := H.later c25
              have B24 := Lib.hid (B22.out.trans (c25.mono B22.out.size))
              replace o20 := own_below o20 c25
              replace i22 := i22.below (c25.mono B22.out.size)
              clear c23 c24 c25 b22 HH HS1 B21 B22 hbm2
              go_upto_region 20 with fail
              generalize (w22.alloc (.cells #[.int .i64 c, .slice sa ms.length sc, .int .i64 r1, .int .i64 hi] 29)).alloc (.cells #[.int .i64 ga, .int .i64 gb, .int .i64 gc, .int .i64 gd, .int .i64 ge, .slice ya gz.length yc] 34) = w24 at *
              generalize w22.heap.size = bx at *
              obtain ⟨x0, x1, x2, x3⟩ := F9.cells
              obtain ⟨c0, c1, c2, c3⟩ := H.four.cells
              have f0 := H.four.frozen 0
              have f1 := H.four.frozen 1
              have f2 := H.four.frozen 2
              have f3 := H.four.frozen 3
              have G := grown_four w24 bw (.int .i64 c) (.slice sa ms.length sc) (.int .i64 r1) (.int .i64 hi)
              replace S1 := S1.kept G (fun e => by have := Option.some.inj e; omega)
              replace S2 := S2.kept G (fun e => by have := Option.some.inj e; omega)
              have H6 : Both w.heap.size w.heap.size bw c q' r1 hi (.slice sa ms.length sc) ms r1 hi ((((w24.setCell ⟨bw, 0, none⟩ (.int .i64 c)).setCell ⟨bw, 1, none⟩ (.slice sa ms.length sc)).setCell ⟨bw, 2, none⟩ (.int .i64 r1)).setCell ⟨bw, 3, none⟩ (.int .i64 hi)) := H.refs (rr' := r1) (pk' := hi) H.sent (Nat.lt_succ_self _) (fun k hk => (H.ring k hk).2)
              replace o20 := o20.kept G (H.four.not_row o20 (by decide))
              replace i22 := i22.below ((below_four w24 bw (.int .i64 c) (.slice sa ms.length sc) (.int .i64 r1) (.int .i64 hi)).mono (Nat.le_of_lt H.ord))
              have B25 := Lib.hid (B24.out.trans ((below_four w24 bw (.int .i64 c) (.slice sa ms.length sc) (.int .i64 r1) (.int .i64 hi)).mono (Nat.le_of_lt H.ord)))
              have HH := Lib.hid H6
              have HS1 := Lib.hid S1
              have HS2 := Lib.hid S2
              clear H H6 G F9 S1 S2 B24
              go_upto_region 21 with fail
              clear x0 x1 x2 x3 c0 c1 c2 c3 f0 f1 f2 f3
              generalize ((((w24.setCell ⟨bw, 0, none⟩ (.int .i64 c)).setCell ⟨bw, 1, none⟩ (.slice sa ms.length sc)).setCell ⟨bw, 2, none⟩ (.int .i64 r1)).setCell ⟨bw, 3, none⟩ (.int .i64 hi)) = w25 at *
              obtain ⟨⟨x0, x1, x2⟩, x3, x4, x5⟩ := HS1.out.cells
              obtain ⟨⟨y0, y1, y2⟩, y3, y4, y5⟩ := HS2.out.cells
              have hgz := HBD.out.z _ (List.mem_of_getElem? HBD.out.head)
              dsimp only at hgz
              have HSS := Lib.hid (refSameM_any ⟨ga, gb, gc, gd, ge⟩ ⟨ga, gb, gc, gd, ge⟩ (.slice ra gz.length rc) (.slice ya gz.length yc) gz gz hgz hgz w25 (.inr (ints_own o20)) (i22.grow B25.out.size))
              clear o20 i22
              rw [sameM_refl] at HSS
              go_wp2_with fail
              refine HSS.out.mono ?_
              rintro e w26 ⟨rfl, b26⟩
              have HH26 := Lib.hid (HH.out.later b26)
              have B26 := Lib.hid (B25.out.trans (b26.mono B25.out.size))
              clear HH B25 b26 HSS x0 x1 x2 x3 x4 x5 y0 y1 y2 y3 y4 y5 HS1 HS2
              have HH := HH26
              clear HH26
              go_upto_region 23 with fail
              have HBD2 := Lib.hid (show LinkBd c q' r1 hi ms (j + 1) from by rw [HR1.out]; exact HBD.out.recv)
              obtain ⟨c0, c1, c2, c3⟩ := HH.out.four.cells
              have HSM := Lib.hid (same18_any w.heap.size c r1 hi q' (.slice sa ms.length sc) ms HBD2.out.hq HBD2.out.len (by have := HBD2.out.le; omega) w26 HH.out.link (HBD2.out.ok (by omega) hc2) (HH.out.sent.msgs B26.out.size))
              go_wp2_with fail
              refine HSM.out.mono ?_
              rintro e wz ⟨rfl, bz⟩
              have HZZ := Lib.hid (HH.out.later bz)
              have BZ := Lib.hid (B26.out.trans (bz.mono B26.out.size))
              clear HH B26 bz HSM c0 c1 c2 c3
              go_wp2_with fail
              go_roundw
              case rel => exact ⟨j + 1, _, _, _, _, _, by omega, by go_num, HZZ.out, HBD2.out, BZ.out⟩
              case measure => simp [intOf]; omega
      · have hje : j = xs.length := by omega
        subst hje
        have hdec : decide ((xs.length : Int) < (xs.length : Int)) = false := by simp
        have HB := Lib.hid hB
        clear H hB hbd
        go_wp2_with fail
        refine (alive18_any wr).mono ?_
        rintro e w4 ⟨rfl, b4⟩
        have B4 := Lib.hid (HB.out.trans (b4.mono HB.out.size))
        clear HB b4
        go_wp2_with fail
        go_ret
        exact ⟨rfl, B4.out⟩
theorem walk_matches_arg {H : Type} {enc : TypeId × Value → H} (v : Value) (cp : Int) (hcp : 0 ≤ cp ∧ cp ≤ 255) (w : World) (h : ReadsZ enc Try.prog w 22 [v]) :
    Calls Try.prog 3 #[.int .u8 cp, v] w fun e w' => e = .returned (.bool true) ∧ Below w.heap.size w w' := by
  obtain ⟨xs, hv, hl, hz⟩ := reads_ops h
  exact walk_matches v xs cp hcp hl hz w hv
end Go.Proofs.Ytgbgmmakiimbbaa
