/- Layer 2: Parse. -/
import Derived.Test.YtcnabebcckbfkaaDoorDecW
namespace Go.Proofs.YtcnabebcckbfkaaDoor
open Go.RowKit
set_option linter.unusedVariables false
def ParseIs (s : ByteArray) (q x : Int) (ok : Bool) : Prop :=
  (ok = true ∧ inQ q = true ∧ (-9223372036854775808 ≤ x ∧ x ≤ 9223372036854775807) ∧ (⟨(textB x q).toArray⟩ : ByteArray) = s) ∨
  (ok = false ∧ x = 0 ∧ ∀ y : Int, -9223372036854775808 ≤ y → y ≤ 9223372036854775807 → inQ q = true → (⟨(textB y q).toArray⟩ : ByteArray) ≠ s)
theorem cell_apart {w w' : World} {row : Option Nat} {g o : Nat} (h : w.grownBy w' row) (hg : g < w.heap.size) (hne : row ≠ some g) : w'.cell? ⟨g, o, none⟩ = w.cell? ⟨g, o, none⟩ := by
  simp only [World.cell?, h.block g hg (fun e => hne (by cases e; rfl))]
/-- the number that Parse makes out of the digits -/
def cand0 (k : Nat) (W P : List Nat) : Int := IntKind.i64.wrap (bits BinOp.or IntKind.u64 (IntKind.u64.wrap ((valD W : Int) % 18446744073709551616 * 2 ^ k)) (bitsD k 0 P))
def cand (k : Nat) (neg : Bool) (W P : List Nat) : Int := if neg = true then wrap64 (-cand0 k W P) else cand0 k W P
theorem cand0_text (k n : Nat) (hk : k ≤ 62) (hn : n ≤ 9223372036854775808) : cand0 k (digsN (n / 2 ^ k)) (fracL k (n % 2 ^ k)) = IntKind.i64.wrap (n : Int) := by
  unfold cand0
  have hm := Nat.mod_lt n (pow_pos2 k)
  rw [digsN_val, bits_frac (n := 0) (by omega) hm, Nat.zero_mul, Nat.zero_add]
  have hd := Nat.div_add_mod n (2 ^ k)
  have hq := Nat.div_le_self n (2 ^ k)
  have hp := pow_int k hk
  generalize n / 2 ^ k = q at *
  generalize n % 2 ^ k = r at *
  have e1 : IntKind.u64.wrap ((q : Int) % 18446744073709551616 * 2 ^ k) = ((2 ^ k * q : Nat) : Int) := by
    rw [hp.1]
    have e2 : (q : Int) % 18446744073709551616 = (q : Int) := by omega
    rw [e2, ← Int.natCast_mul, Nat.mul_comm, IntKind.wrap_u64]
    generalize 2 ^ k * q = a at *
    omega
  have hle2 : 2 ^ k * q ≤ n ∧ r ≤ n := by
    generalize 2 ^ k * q = a at *
    omega
  rw [e1, bits_or_u64_nat _ _ (by omega) (by omega), ← Nat.two_pow_add_eq_or_of_lt hm, hd]
theorem cand_text (x : Int) (k : Nat) (hk : k ≤ 62) (h0 : -9223372036854775808 ≤ x) (h1 : x ≤ 9223372036854775807) : cand k (decide (x < 0)) (digsN (x.natAbs / 2 ^ k)) (fracL k (x.natAbs % 2 ^ k)) = x := by
  unfold cand
  rw [cand0_text k _ hk (by omega), IntKind.wrap_i64]
  by_cases h : x < 0
  · rw [if_pos (by simpa using h)]
    unfold wrap64
    omega
  · rw [if_neg (by simpa using h)]
    omega
theorem cand_range (k : Nat) (neg : Bool) (W P : List Nat) : -9223372036854775808 ≤ cand k neg W P ∧ cand k neg W P ≤ 9223372036854775807 := by
  unfold cand cand0
  rw [IntKind.wrap_i64]
  split
  · unfold wrap64; omega
  · omega
/-- a text that Parse's number has not, is no number's -/
theorem cand_no {s : ByteArray} {k : Nat} {neg : Bool} {W P : List Nat} (hk : k ≤ 62) (hsc : scan s s.size 0 false false [] [] = some (neg, W, P)) (h : textB (cand k neg W P) k ≠ s.toList) (y : Int) (h0 : -9223372036854775808 ≤ y) (h1 : y ≤ 9223372036854775807) : (⟨(textB y k).toArray⟩ : ByteArray) ≠ s := by
  intro e
  have et : ∀ z : Int, textB z (k : Int) = textL z k := fun z => by unfold textB; rw [if_pos (by omega), Int.toNat_natCast]
  rw [et] at e h
  subst e
  have hsz : (⟨(textL y k).toArray⟩ : ByteArray).size = (textL y k).length := by simp [ByteArray.size]
  rw [hsz, scan_text] at hsc
  cases hsc
  rw [cand_text y k hk h0 h1] at h
  exact h (by simp)
theorem bytes_list {l : List UInt8} {s : ByteArray} (h : l = s.toList) : (⟨l.toArray⟩ : ByteArray) = s := by
  rw [ByteArray.toList_eq] at h
  exact Go.WideShapes.bytes_inj (by rw [h])
set_option maxHeartbeats 4000000 in
theorem parse_in (s : ByteArray) (k : Nat) (hk : k ≤ 62) (hs : s.size ≤ 83) (neg : Bool) (W P : List Nat) (hsc : scan s s.size 0 false false [] [] = some (neg, W, P)) (w : World) (ht : Pow10 w) :
    Calls Tryd.prog 33 #[.string s, .int .i64 k] w fun e w' => (∃ x ok, e = .returned (.tuple #[.int .i64 x, .bool ok]) ∧ ParseIs s k x ok) ∧ Below w.heap.size w w' := by
  have HP := Lib.hid (fun W => split_any s k hk hs W)
  rw [hsc] at HP
  have HT := Lib.hid ht
  clear ht
  obtain ⟨J, hJ⟩ : ∃ J : Act → World → Prop, J = (fun a' wj => ∃ u0 u1 u2 u3 u4 u5 u6 u7 u8 u9 u10 u11 u12 u13 u14 u15 u16 u17 u18 u19 u20 u21 u22 u23 u24 u25 u26 u27 u28 u29 u30 u31 u32 u33 u34 u35 u36 u37 u38 : Value, a' = { tmps := #[u0, u1, u2, u3, u4, u5, u6, u7, u8, u9, u10, u11, u12, u13, u14, u15, u16, u17, u18, u19, u20, u21, u22, u23, u24, u25, u26, u27, u28, u29, u30, u31, u32, u33, u34, u35, u36, u37, u38], defers := [] } ∧ Below w.heap.size w wj ∧ Hid (ParseIs s k 0 false)) := ⟨_, rfl⟩
  have HJ := Lib.hid hJ
  have HSC := Lib.hid hsc
  have hin : inQ (k : Int) = true := by unfold inQ; simp; omega
  have HIN := Lib.hid hin
  clear hJ hsc hin
  go_enter Tryd.func33, Tryd.ntmps33
  go_wp2_with fail
  refine wp_scope_jumps 0 J (fun _ _ => 0) rfl ?first ?pass
  case pass =>
    have hJ := HJ.out
    intro a' wj hj
    rw [hJ] at hj
    obtain ⟨u0, u1, u2, u3, u4, u5, u6, u7, u8, u9, u10, u11, u12, u13, u14, u15, u16, u17, u18, u19, u20, u21, u22, u23, u24, u25, u26, u27, u28, u29, u30, u31, u32, u33, u34, u35, u36, u37, u38, rfl, hB, HPI⟩ := hj
    clear hJ HJ
    go_wp2_with fail
    simp only [Exit.jump]
    exact bodyPost_ret (v := .tuple #[.int .i64 0, .bool false]) (by simp [results, Tryd.results33, go_sem]) rfl ⟨⟨0, false, rfl, HPI.out⟩, hB⟩
  case first =>
    go_wp2_with fail
    refine (HP.out _).mono ?_
    rintro e w1 ⟨⟨wv, pv, rfl, ow, op, ap, dW, dP, lW, lP⟩, b1⟩
    obtain ⟨aw, kw, rfl⟩ := own_value ow
    obtain ⟨apx, kp, rfl⟩ := own_value op
    go_wp2_with fail
    have al := (Below.refl w1.heap.size w1).alloc (Nat.le_refl _) (Obj.cells #[Value.slice aw W.length kw, Value.slice apx P.length kp] 90)
    have C0 := (cell_new w1 #[Value.slice aw W.length kw, Value.slice apx P.length kp] 90 0).trans rfl
    have C1 := (cell_new w1 #[Value.slice aw W.length kw, Value.slice apx P.length kp] 90 1).trans rfl
    have OW := Lib.hid (own_below (own_below ow al) (Below.refl _ _).drew)
    have OP := Lib.hid (own_below (own_below op al) (Below.refl _ _).drew)
    have BE := Lib.hid ((below_step b1 al).drew)
    have hne : ∀ g, (Value.slice apx P.length kp).ownBlock = some g → g < w1.heap.size := fun g hg => (op.lt g hg).2
    have HNE := Lib.hid hne
    have hD : w1.heap.size < (w1.alloc (Obj.cells #[Value.slice aw W.length kw, Value.slice apx P.length kp] 90)).heap.size := World.block_lt_of_cell? _ _ C0
    clear ow op al b1 ap hne
    generalize w1.alloc (Obj.cells #[Value.slice aw W.length kw, Value.slice apx P.length kp] 90) = W2 at *
    generalize w1.heap.size = D at *
    refine wp_region_held_drew (S := fun w' => w'.cell? ⟨D, 0, none⟩ = some (Value.slice aw W.length kw) ∧ w'.cell? ⟨D, 1, none⟩ = some (Value.slice apx P.length kp)) (by kernel_rfl) ?_ (fun hHeld => ?_)
    · exact ⟨C0, C1⟩
    clear C0 C1
    refine wpAnyH_take (i := 0) (v := ?v1) rfl (by kernel_rfl) (by kernel_rfl) (by kernel_rfl) (fun _ _ _ h => h) (Or.inl ⟨by rfl, ?hy1⟩) (by assumption) ?rest1
    case hy1 => (intro w hSw; (try dsimp only at hSw); go_simp; (first | done | with_reducible rfl))
    simp only [Act.put, List.setIfInBounds_toArray, List.set_cons_zero, List.set_cons_succ, List.getElem_toArray, List.getElem_cons_zero]
    refine wpAnyH_take (i := 1) (v := ?v2) rfl (by kernel_rfl) (by kernel_rfl) (by kernel_rfl) (fun _ _ _ h => h) (Or.inl ⟨by rfl, ?hy2⟩) (by assumption) ?rest2
    case hy2 => (intro w hSw; (try dsimp only at hSw); go_simp; (first | done | with_reducible rfl))
    simp only [Act.put, List.setIfInBounds_toArray, List.set_cons_zero, List.set_cons_succ, List.getElem_toArray, List.getElem_cons_zero, List.getElem_cons_succ]
    refine wpAnyH_take (i := 3) (v := ?v3) rfl (by kernel_rfl) (by kernel_rfl) (by kernel_rfl) (fun _ _ _ h => h) (Or.inl ⟨by rfl, ?hy3⟩) (by assumption) ?rest3
    case hy3 => (intro w hSw; (try dsimp only at hSw); go_simp; (first | done | with_reducible rfl))
    simp only [Act.put, List.setIfInBounds_toArray, List.set_cons_zero, List.set_cons_succ, List.getElem_toArray, List.getElem_cons_zero, List.getElem_cons_succ]
    refine wpAnyH_take (i := 5) (v := ?v4) rfl (by kernel_rfl) (by kernel_rfl) (by kernel_rfl) (fun _ _ _ h => h) (Or.inl ⟨by rfl, ?hy4⟩) (by assumption) ?rest4
    case hy4 => (intro w hSw; (try dsimp only at hSw); go_simp; (first | done | with_reducible rfl))
    simp only [Act.put, List.setIfInBounds_toArray, List.set_cons_zero, List.set_cons_succ, List.getElem_toArray, List.getElem_cons_zero, List.getElem_cons_succ]
    refine wpAnyH_take (i := 6) (v := ?v5) rfl (by kernel_rfl) (by kernel_rfl) (by kernel_rfl) (fun _ _ _ h => h) (Or.inl ⟨by rfl, ?hy5⟩) (by assumption) ?rest5
    case hy5 => (intro w hSw; (try dsimp only at hSw); go_simp; (first | done | with_reducible rfl))
    simp only [Act.put, List.setIfInBounds_toArray, List.set_cons_zero, List.set_cons_succ, List.getElem_toArray, List.getElem_cons_zero, List.getElem_cons_succ]
    refine wpAnyH_take (i := 7) (v := ?v6) rfl (by kernel_rfl) (by kernel_rfl) (by kernel_rfl) (fun _ _ _ h => h) (Or.inl ⟨by rfl, ?hy6⟩) (by assumption) ?rest6
    case hy6 => (intro w hSw; (try dsimp only at hSw); go_simp; (first | done | with_reducible rfl))
    simp only [Act.put, List.setIfInBounds_toArray, List.set_cons_zero, List.set_cons_succ, List.getElem_toArray, List.getElem_cons_zero, List.getElem_cons_succ]
    refine wpAnyH_ready (rs := [2]) (by kernel_rfl) (by simp) ?_
    refine AllReadyH.cons rfl (fun K hK => ?_) AllReadyH.nil
    simp only [List.getElem_toArray, List.getElem_cons_zero, List.getElem_cons_succ]
    go_simp
    go_at_call 56
    refine (integer_any W dW (by omega) w.heap.size _ _ OW.out).mono ?_
    rintro e w3 ⟨rfl, b3⟩
    obtain ⟨h_0, h_1⟩ := hHeld
    go_wp2_with fail
    refine hK.out _ _ ⟨cell_step b3 h_0, cell_step b3 h_1⟩ (fun hHeld => ?_)
    clear hK K h_0 h_1
    try simp only [Act.put, List.setIfInBounds_toArray, List.set_cons_zero, List.set_cons_succ, List.getElem_toArray, List.getElem_cons_zero, List.getElem_cons_succ]
    have OP3 := Lib.hid (own_below OP.out b3)
    have BE3 := Lib.hid (BE.out.trans (b3.mono BE.out.size))
    have hD3 : D < w3.heap.size := Nat.lt_of_lt_of_le hD b3.size
    clear b3
    refine wpAnyH_take (i := 4) (v := ?v7) rfl (by kernel_rfl) (by kernel_rfl) (by kernel_rfl) (fun _ _ _ h => h) (Or.inl ⟨by rfl, ?hy7⟩) (by assumption) ?rest7
    case hy7 => (intro w hSw; (try dsimp only at hSw); go_simp; (first | done | with_reducible rfl))
    simp only [Act.put, List.setIfInBounds_toArray, List.set_cons_zero, List.set_cons_succ, List.getElem_toArray, List.getElem_cons_zero, List.getElem_cons_succ]
    refine wpAnyH_ready (rs := [8]) (by kernel_rfl) (by simp) ?_
    refine AllReadyH.cons rfl (fun K hK => ?_) AllReadyH.nil
    simp only [List.getElem_toArray, List.getElem_cons_zero, List.getElem_cons_succ]
    go_simp
    go_at_call 57
    refine (fractionBits_any k hk P dP (by omega) w.heap.size _ _ OP3.out).mono ?_
    rintro e w4 ⟨rfl, g4⟩
    obtain ⟨h_0, h_1⟩ := hHeld
    have BE4 := Lib.hid (BE3.out.grown g4 (by have := BE3.out.size; omega) (fun g hg => (OP3.out.lt g hg).1))
    go_wp2_with fail
    refine hK.out _ _ ⟨(cell_apart (g := D) (o := 0) g4 hD3 (fun e => by have := HNE.out D e; omega)).trans h_0, (cell_apart (g := D) (o := 1) g4 hD3 (fun e => by have := HNE.out D e; omega)).trans h_1⟩ (fun hHeld => ?_)
    clear hK K h_0 h_1 g4
    try simp only [Act.put, List.setIfInBounds_toArray, List.set_cons_zero, List.set_cons_succ, List.getElem_toArray, List.getElem_cons_zero, List.getElem_cons_succ]
    refine wpAnyH_take (i := 9) (v := ?v8) rfl (by kernel_rfl) (by kernel_rfl) (by kernel_rfl) (fun _ _ _ h => h) (Or.inl ⟨by rfl, ?hy8⟩) (by assumption) ?rest8
    case hy8 => (intro w hSw; (try dsimp only at hSw); go_simp; (first | done | with_reducible rfl))
    simp only [Act.put, List.setIfInBounds_toArray, List.set_cons_zero, List.set_cons_succ, List.getElem_toArray, List.getElem_cons_zero, List.getElem_cons_succ]
    refine wpAnyH_take (i := 10) (v := ?v9) rfl (by kernel_rfl) (by kernel_rfl) (by kernel_rfl) (fun _ _ _ h => h) (Or.inl ⟨by rfl, ?hy9⟩) (by assumption) ?rest9
    case hy9 => (intro w hSw; (try dsimp only at hSw); go_simp; (first | done | with_reducible rfl))
    simp only [Act.put, List.setIfInBounds_toArray, List.set_cons_zero, List.set_cons_succ, List.getElem_toArray, List.getElem_cons_zero, List.getElem_cons_succ]
    refine wpAnyH_take (i := 11) (v := ?v10) rfl (by kernel_rfl) (by kernel_rfl) (by kernel_rfl) (fun _ _ _ h => h) (Or.inl ⟨by rfl, ?hy10⟩) (by assumption) ?rest10
    case hy10 => (intro w hSw; (try dsimp only at hSw); go_simp; (first | done | with_reducible rfl))
    simp only [Act.put, List.setIfInBounds_toArray, List.set_cons_zero, List.set_cons_succ, List.getElem_toArray, List.getElem_cons_zero, List.getElem_cons_succ]
    refine wpAnyH_done (by kernel_rfl) ?_ _
    have HC0 := Lib.hid (show IntKind.i64.wrap (bits BinOp.or IntKind.u64 (IntKind.u64.wrap ((valD W : Int) % 18446744073709551616 * 2 ^ k)) (bitsD k 0 P)) = cand0 k W P from rfl)
    rw [HC0.out]
    cases neg with
    | true =>
      have HCR := Lib.hid (cand_range k true W P)
      have HCE := Lib.hid (show wrap64 (-cand0 k W P) = cand k true W P from rfl)
      have HNO := Lib.hid (fun h => cand_no (neg := true) hk HSC.out h)
      generalize cand k true W P = c at *
      
      go_wp2_with fail
      rw [HCE.out]
      refine (text_any c k HCR.out.1 HCR.out.2 _ (HT.out.later BE4.out)).mono ?_
      rintro e w5 ⟨rfl, b5⟩
      have BE5 := Lib.hid (BE4.out.trans (b5.mono BE4.out.size))
      clear b5
      by_cases hq : textB c k = s.toList
      · have hqb : (textB c k == s.toList) = true := by simpa using hq
        have HQ := Lib.hid hq
        clear hq
        go_wp2_with fail
        simp only [Exit.jump]
        exact bodyPost_ret (v := .tuple #[.int .i64 c, .bool true]) (by simp [results, Tryd.results33, go_sem]) rfl ⟨⟨c, true, rfl, .inl ⟨rfl, HIN.out, HCR.out, bytes_list HQ.out⟩⟩, BE5.out⟩
      · have hqb : (textB c k == s.toList) = false := by simpa using hq
        have HQ := Lib.hid hq
        clear hq
        go_wp2_with fail
        go_step3
        refine ⟨rfl, ?_⟩
        rw [HJ.out]
        exact ⟨_, _, _, _, _, _, _, _, _, _, _, _, _, _, _, _, _, _, _, _, _, _, _, _, _, _, _, _, _, _, _, _, _, _, _, _, _, _, _, rfl, BE5.out, Lib.hid (.inr ⟨rfl, rfl, fun y y0 y1 _ => HNO.out HQ.out y y0 y1⟩)⟩
    | false =>
      have HCR := Lib.hid (cand_range k false W P)
      have HCE := Lib.hid (show cand0 k W P = cand k false W P from rfl)
      have HNO := Lib.hid (fun h => cand_no (neg := false) hk HSC.out h)
      generalize cand k false W P = c at *
      rw [HCE.out]
      go_wp2_with fail
      
      refine (text_any c k HCR.out.1 HCR.out.2 _ (HT.out.later BE4.out)).mono ?_
      rintro e w5 ⟨rfl, b5⟩
      have BE5 := Lib.hid (BE4.out.trans (b5.mono BE4.out.size))
      clear b5
      by_cases hq : textB c k = s.toList
      · have hqb : (textB c k == s.toList) = true := by simpa using hq
        have HQ := Lib.hid hq
        clear hq
        go_wp2_with fail
        simp only [Exit.jump]
        exact bodyPost_ret (v := .tuple #[.int .i64 c, .bool true]) (by simp [results, Tryd.results33, go_sem]) rfl ⟨⟨c, true, rfl, .inl ⟨rfl, HIN.out, HCR.out, bytes_list HQ.out⟩⟩, BE5.out⟩
      · have hqb : (textB c k == s.toList) = false := by simpa using hq
        have HQ := Lib.hid hq
        clear hq
        go_wp2_with fail
        go_step3
        refine ⟨rfl, ?_⟩
        rw [HJ.out]
        exact ⟨_, _, _, _, _, _, _, _, _, _, _, _, _, _, _, _, _, _, _, _, _, _, _, _, _, _, _, _, _, _, _, _, _, _, _, _, _, _, _, rfl, BE5.out, Lib.hid (.inr ⟨rfl, rfl, fun y y0 y1 _ => HNO.out HQ.out y y0 y1⟩)⟩
theorem fracD_short : ∀ (j f k p : Nat), p < 2 ^ k → 2 ^ k ∣ 2 ^ j * p → (fracD f k p).length ≤ j
  | 0, f, k, p, hp, h => by
    have := zero_of_dvd h hp
    subst this
    cases f <;> simp [fracD]
  | j + 1, 0, k, p, hp, h => by simp [fracD]
  | j + 1, f + 1, k, p, hp, h => by
    rw [fracD]
    by_cases h0 : p = 0
    · rw [if_pos h0]; simp
    · rw [if_neg h0, List.length_cons]
      have := fracD_short j f k _ (Nat.mod_lt (10 * p) (pow_pos2 k)) (dvd_step h)
      omega
theorem digsN_len : ∀ (j n : Nat), n < 10 ^ (j + 1) → (digsN n).length ≤ j + 1
  | 0, n, h => by rw [digsN_small (by simpa using h)]; simp
  | j + 1, n, h => by
    by_cases h10 : n < 10
    · rw [digsN_small h10]; simp
    · rw [digsN_big h10, List.length_append, List.length_singleton]
      have := digsN_len j (n / 10) (by rw [Nat.div_lt_iff_lt_mul (by decide), ← Nat.pow_succ]; exact h)
      omega
theorem dec_len19 (d : Nat) (hd : d ≤ 9223372036854775808) : (Lib.decDigits d).length ≤ 19 := by
  rw [dec_digs, List.length_map]
  exact digsN_len 18 d (Nat.lt_of_le_of_lt hd (by decide))
theorem textL_short (y : Int) (k : Nat) (hk : k ≤ 62) (h0 : -9223372036854775808 ≤ y) (h1 : y ≤ 9223372036854775807) : (textL y k).length ≤ 83 := by
  have ha : y.natAbs ≤ 9223372036854775808 := by omega
  have hq := Nat.div_le_self y.natAbs (2 ^ k)
  have l1 := dec_len19 (y.natAbs / 2 ^ k) (by omega)
  have l2 := fracD_short k 64 k (y.natAbs % 2 ^ k) (Nat.mod_lt _ (pow_pos2 k)) (Nat.dvd_mul_right _ _)
  unfold textL fracL
  rw [List.length_append, List.length_append]
  split <;> split <;> simp only [List.length_nil, List.length_cons, List.length_map] <;> omega
theorem no_text {s : ByteArray} {q : Int} (h : splitR s q = none) (y : Int) (h0 : -9223372036854775808 ≤ y) (h1 : y ≤ 9223372036854775807) (hq : inQ q = true) : (⟨(textB y q).toArray⟩ : ByteArray) ≠ s := by
  obtain ⟨k, rfl, hk⟩ := inQ_nat hq
  have et : textB y (k : Int) = textL y k := by unfold textB; rw [if_pos (by omega), Int.toNat_natCast]
  rw [et]
  intro e
  subst e
  have hsz : (⟨(textL y k).toArray⟩ : ByteArray).size = (textL y k).length := by simp [ByteArray.size]
  unfold splitR at h
  rw [if_pos ⟨hq, by rw [hsz]; exact textL_short y k hk h0 h1⟩, hsz, scan_text] at h
  cases h
theorem split_none (s : ByteArray) (q : Int) (h : splitR s q = none) (w : World) :
    Calls Tryd.prog 55 #[.string s, .int .i64 q] w fun e w' => e = .returned (.tuple #[.bool false, .agg #[.slice none 0 0, .slice none 0 0], .bool false]) ∧ Below w.heap.size w w' := by
  cases hq : inQ q
  · exact split_out s q (.inl hq) w
  · by_cases hs : s.size ≤ 83
    · obtain ⟨k, rfl, hk⟩ := inQ_nat hq
      unfold splitR at h
      rw [if_pos ⟨hq, hs⟩] at h
      have := split_any s k hk hs w
      rw [h] at this
      exact this
    · exact split_out s q (.inr ⟨hq, by omega⟩) w
set_option maxHeartbeats 4000000 in
theorem parse_none (s : ByteArray) (q : Int) (h : splitR s q = none) (w : World) :
    Calls Tryd.prog 33 #[.string s, .int .i64 q] w fun e w' => e = .returned (.tuple #[.int .i64 0, .bool false]) ∧ Below w.heap.size w w' := by
  have HP := Lib.hid (fun W => split_none s q h W)
  clear h
  obtain ⟨J, hJ⟩ : ∃ J : Act → World → Prop, J = (fun a' wj => ∃ u0 u1 u2 u3 u4 u5 u6 u7 u8 u9 u10 u11 u12 u13 u14 u15 u16 u17 u18 u19 u20 u21 u22 u23 u24 u25 u26 u27 u28 u29 u30 u31 u32 u33 u34 u35 u36 u37 u38 : Value, a' = { tmps := #[u0, u1, u2, u3, u4, u5, u6, u7, u8, u9, u10, u11, u12, u13, u14, u15, u16, u17, u18, u19, u20, u21, u22, u23, u24, u25, u26, u27, u28, u29, u30, u31, u32, u33, u34, u35, u36, u37, u38], defers := [] } ∧ Below w.heap.size w wj) := ⟨_, rfl⟩
  have HJ := Lib.hid hJ
  clear hJ
  go_enter Tryd.func33, Tryd.ntmps33
  go_wp2_with fail
  refine wp_scope_jumps 0 J (fun _ _ => 0) rfl ?first ?pass
  case pass =>
    have hJ := HJ.out
    intro a' wj hj
    rw [hJ] at hj
    obtain ⟨u0, u1, u2, u3, u4, u5, u6, u7, u8, u9, u10, u11, u12, u13, u14, u15, u16, u17, u18, u19, u20, u21, u22, u23, u24, u25, u26, u27, u28, u29, u30, u31, u32, u33, u34, u35, u36, u37, u38, rfl, hB⟩ := hj
    clear hJ HJ
    go_wp2_with fail
    simp only [Exit.jump]
    exact bodyPost_ret (v := .tuple #[.int .i64 0, .bool false]) (by simp [results, Tryd.results33, go_sem]) rfl ⟨rfl, hB⟩
  case first =>
    go_wp2_with fail
    refine (HP.out _).mono ?_
    rintro e w1 ⟨rfl, b1⟩
    have B2 := Lib.hid (below_step b1 ((Below.refl w1.heap.size w1).alloc (Nat.le_refl _) (Obj.cells #[Value.slice none 0 0, Value.slice none 0 0] 90)))
    go_wp2_with fail
    go_step3
    refine ⟨rfl, ?_⟩
    rw [HJ.out]
    exact ⟨_, _, _, _, _, _, _, _, _, _, _, _, _, _, _, _, _, _, _, _, _, _, _, _, _, _, _, _, _, _, _, _, _, _, _, _, _, _, _, rfl, B2.out⟩
theorem parse_any (s : ByteArray) (q : Int) (w : World) (ht : Pow10 w) :
    Calls Tryd.prog 33 #[.string s, .int .i64 q] w fun e w' => (∃ x ok, e = .returned (.tuple #[.int .i64 x, .bool ok]) ∧ ParseIs s q x ok) ∧ Below w.heap.size w w' := by
  cases h : splitR s q with
  | none => exact (parse_none s q h w).mono fun e w' ⟨he, hb⟩ => ⟨⟨0, false, he, .inr ⟨rfl, rfl, fun y y0 y1 hq => no_text h y y0 y1 hq⟩⟩, hb⟩
  | some r =>
    obtain ⟨neg, W, P⟩ := r
    unfold splitR at h
    split at h
    · rename_i hc
      obtain ⟨k, rfl, hk⟩ := inQ_nat hc.1
      exact parse_in s k hk hc.2 neg W P h w ht
    · cases h
theorem ParseIs.uniq {s : ByteArray} {q x y : Int} {ok is : Bool} (h1 : ParseIs s q x ok) (h2 : ParseIs s q y is) : x = y ∧ ok = is := by
  rcases h1 with ⟨a, hq, hx, ht⟩ | ⟨a, hx, hn⟩
  · rcases h2 with ⟨b, _, hy, hu⟩ | ⟨b, hy, hm⟩
    · refine ⟨?_, a.trans b.symm⟩
      obtain ⟨k, rfl, hk⟩ := inQ_nat hq
      have et : ∀ z : Int, textB z (k : Int) = textL z k := fun z => by unfold textB; rw [if_pos (by omega), Int.toNat_natCast]
      rw [et] at ht hu
      have h3 := congrArg ByteArray.data (ht.trans hu.symm)
      have h4 := congrArg Array.toList h3
      exact textL_inj (k := k) (by omega) (by simpa using h4)
    · exact absurd ht (hm x hx.1 hx.2 hq)
  · rcases h2 with ⟨b, hq, hy, hu⟩ | ⟨b, hy, hm⟩
    · exact absurd hu (hn y hy.1 hy.2 hq)
    · exact ⟨hx.trans hy.symm, a.trans b.symm⟩
end Go.Proofs.YtcnabebcckbfkaaDoor
