/- Layer 2: Text. -/
import Derived.Test.YtcnabebcckbfkaaDoorDecF
import Derived.Laws.Cover4
import Derived.Deep.RegionHeld3
namespace Go.Proofs.YtcnabebcckbfkaaDoor
open Go.RowKit
set_option linter.unusedVariables false
theorem bytes_append (a b : List UInt8) : (⟨a.toArray⟩ : ByteArray) ++ ⟨b.toArray⟩ = ⟨(a ++ b).toArray⟩ := by
  apply ByteArray.ext
  simp [ByteArray.data_append]
theorem encode_ascii (z : Int) (h0 : 0 ≤ z) (h1 : z < 128) : Utf8.encode z = ⟨[UInt8.ofNat z.toNat].toArray⟩ := by
  unfold Utf8.encode
  have hv : Utf8.valid z = true := by unfold Utf8.valid; simp; omega
  simp only [hv, if_true]
  rw [if_pos (by omega)]
theorem runesBytes_ascii : ∀ (zs : List Int) (acc : List UInt8), (∀ z ∈ zs, 0 ≤ z ∧ z < 128) → zs.foldl (fun r n => r ++ Utf8.encode n) (⟨acc.toArray⟩ : ByteArray) = ⟨(acc ++ zs.map fun z => UInt8.ofNat z.toNat).toArray⟩
  | [], acc, _ => by simp
  | z :: zs, acc, h => by
    have hz := h z (by simp)
    rw [List.foldl_cons, encode_ascii z hz.1 hz.2, bytes_append, runesBytes_ascii zs _ (fun x hx => h x (by simp [hx])), List.map_cons, List.append_assoc]
    rfl
/-- runes below 128 that the call owns, as a string -/
theorem conv_runes {w : World} {base : Nat} {v : Value} (zs : List Int) (hz : ∀ z ∈ zs, 0 ≤ z ∧ z < 128) (ho : w.ownsRow base 21 1 v zs.length (zs.map (Value.int .i32))) :
    (convert 72 9 v).run Tryd.prog w = .ok (.string ⟨(zs.map fun z => UInt8.ofNat z.toNat).toArray⟩) w := by
  have hb : runesBytes zs = ⟨(zs.map fun z => UInt8.ofNat z.toNat).toArray⟩ := by
    have h := runesBytes_ascii zs [] hz
    rw [List.nil_append] at h
    exact h
  rcases ho.2 with ⟨rfl, hn⟩ | ⟨g, cap, cur, rfl, _⟩
  · obtain rfl : zs = [] := List.length_eq_zero_iff.1 hn
    rw [run_convert_runes_nil w 72 9 21 0 0 Tryd.underlying72 Tryd.underlying21 Tryd.underlying9]
    rfl
  · have h := run_convert_runes (P := Tryd.prog) w 72 9 21 ⟨g, 0, none⟩ zs.length cap zs (Nat.le_refl _) Tryd.underlying72 Tryd.underlying21 Tryd.underlying9 (fun j hj => by
      rw [Go.WideShapes.add_plain, Nat.zero_add]
      have := ho.cellAt j (by rw [Nat.mul_one]; exact hj)
      rw [this, List.getElem?_map, List.getElem?_eq_getElem hj, Option.map_some]
      simp [List.getD, hj])
    rw [List.take_length, hb] at h
    exact h
def digB (d : Nat) : UInt8 := UInt8.ofNat (48 + d)
theorem runes_eq (ds : List Nat) : runes ds = (ds.map fun (d : Nat) => (48 + (d : Int))).map (Value.int .i32) := by unfold runes; rw [List.map_map]; rfl
theorem conv_digits {w : World} {base : Nat} {v : Value} (ds : List Nat) (hd : ∀ d ∈ ds, d < 10) (ho : w.ownsRow base 21 1 v ds.length (runes ds)) :
    (convert 72 9 v).run Tryd.prog w = .ok (.string ⟨(ds.map digB).toArray⟩) w := by
  rw [runes_eq] at ho
  have h := conv_runes (w := w) (base := base) (v := v) (ds.map fun (d : Nat) => (48 + (d : Int))) (by
    intro z hz
    obtain ⟨d, hd', rfl⟩ := List.mem_map.1 hz
    have := hd d hd'
    omega) (by rw [List.length_map]; exact ho)
  rw [h, List.map_map]
  congr 4
/-- the text of a fixed-point number -/
def textL (x : Int) (k : Nat) : List UInt8 :=
  (if x < 0 then [45] else []) ++ Lib.decDigits (x.natAbs / 2 ^ k) ++ (if x.natAbs % 2 ^ k = 0 then [] else 46 :: (fracL k (x.natAbs % 2 ^ k)).map digB)
def textB (x q : Int) : List UInt8 := if 0 ≤ q ∧ q ≤ 62 then textL x q.toNat else []
def inQ (q : Int) : Bool := decide (0 ≤ q ∧ q ≤ 62)
theorem right2_any (q : Int) (w : World) : Calls Tryd.prog 46 #[.int .i64 q] w fun e w' => e = .returned (.bool (inQ q)) ∧ w = w' := by
  by_cases h0 : 0 ≤ q
  · by_cases h1 : q ≤ 62
    · have H := Lib.hid (show inQ q = true by unfold inQ; simp [h0, h1])
      go_enter Tryd.func46, Tryd.ntmps46
      go_wp2
      go_ret
      exact ⟨by rw [H.out]; rfl, rfl⟩
    · have H := Lib.hid (show inQ q = false by unfold inQ; simp [h1])
      go_enter Tryd.func46, Tryd.ntmps46
      go_wp2
      go_ret
      exact ⟨by rw [H.out]; rfl, rfl⟩
  · have H := Lib.hid (show inQ q = false by unfold inQ; simp [h0])
    go_enter Tryd.func46, Tryd.ntmps46
    go_wp2
    go_ret
    exact ⟨by rw [H.out]; rfl, rfl⟩
theorem amount_any (x : Int) (h0 : -9223372036854775808 ≤ x) (h1 : x ≤ 9223372036854775807) (w : World) : Calls Tryd.prog 47 #[.int .i64 x] w fun e w' => e = .returned (.int .u64 (x.natAbs : Int)) ∧ w = w' := by
  by_cases h : x < 0
  · have e1 : IntKind.u64.wrap (-IntKind.u64.wrap x) = (x.natAbs : Int) := by rw [IntKind.wrap_u64, IntKind.wrap_u64]; omega
    go_enter Tryd.func47, Tryd.ntmps47
    go_wp2
    go_ret
    exact ⟨by first | rw [e1] | rfl, rfl⟩
  · have e1 : IntKind.u64.wrap x = (x.natAbs : Int) := by rw [IntKind.wrap_u64]; omega
    go_enter Tryd.func47, Tryd.ntmps47
    go_wp2
    go_ret
    exact ⟨by first | rw [e1] | rfl | (congr 2; omega), rfl⟩
theorem text_out (x q : Int) (hq : inQ q = false) (w : World) : Calls Tryd.prog 27 #[.int .i64 x, .int .i64 q] w fun e w' => e = .returned (.string ⟨(textB x q).toArray⟩) ∧ Below w.heap.size w w' := by
  have H := Lib.hid (show textB x q = [] by unfold textB; unfold inQ at hq; rw [if_neg (by simpa using hq)])
  have HR := Lib.hid (fun W => right2_any q W)
  rw [hq] at HR
  clear hq
  go_enter Tryd.func27, Tryd.ntmps27
  go_wp2_with fail
  refine (HR.out _).mono ?_
  rintro e w' ⟨rfl, rfl⟩
  go_wp2_with fail
  go_ret
  exact ⟨by rw [H.out]; rfl, Below.refl _ _⟩
theorem dec_len (d : Nat) (hd : d < 18446744073709551616) : (Lib.decDigits d).length ≤ 20 := by
  rw [Lib.decDigits_length]
  by_cases h : d < 10
  · rw [Lib.nDigits_small h]; omega
  · have := Lib.numDigits_eq d (by omega) hd
    split at this <;> omega

set_option maxHeartbeats 4000000 in
theorem text_neg (x : Int) (k : Nat) (h0 : -9223372036854775808 ≤ x) (h1 : x ≤ 9223372036854775807) (hk : k ≤ 62) (w : World) (ht : Pow10 w) (hx : x < 0) : Calls Tryd.prog 27 #[.int .i64 x, .int .i64 k] w fun e w' => e = .returned (.string ⟨(textL x k).toArray⟩) ∧ Below w.heap.size w w' := by
  have HR := Lib.hid (fun W => right2_any (k : Int) W)
  rw [show inQ (k : Int) = true by unfold inQ; simp; omega] at HR
  have HA := Lib.hid (fun W => amount_any x h0 h1 W)
  have hu : x.natAbs < 18446744073709551616 := by omega
  have hp := pow_pos2 k
  have hq := Nat.div_le_self x.natAbs (2 ^ k)
  have hm := Nat.mod_lt x.natAbs hp
  have HF := Lib.hid (fun W t => format_any (x.natAbs / 2 ^ k) (by omega) W t)
  have HD := Lib.hid (fun W => fraction_any (x.natAbs % 2 ^ k) k hk hm W)
  have HM := Lib.hid (and_mask x.natAbs k hk hu)
  have HG := Lib.hid (fracL_digit hm)
  have hdl := dec_len (x.natAbs / 2 ^ k) (by omega)
  have hfl := fracL_length k (x.natAbs % 2 ^ k)
  have HS := Lib.hid (show (x.natAbs : Int) / 2 ^ k = ((x.natAbs / 2 ^ k : Nat) : Int) by rw [Int.natCast_ediv, Int.natCast_pow]; rfl)
  have HT := Lib.hid ht
  have HL := Lib.hid (show textL x k = [45] ++ Lib.decDigits (x.natAbs / 2 ^ k) ++ (if x.natAbs % 2 ^ k = 0 then [] else 46 :: (fracL k (x.natAbs % 2 ^ k)).map digB) by unfold textL; rw [if_pos hx])
  generalize x.natAbs / 2 ^ k = d at *
  generalize x.natAbs % 2 ^ k = p at *
  generalize x.natAbs = n at *
  clear ht
  go_enter Tryd.func27, Tryd.ntmps27
  go_wp2_with fail
  refine (HR.out _).mono ?_
  rintro e w' ⟨rfl, rfl⟩
  have o0 : w.ownsRow w.heap.size 21 1 (.slice none 0 0) 0 [] := ⟨by rfl, .inl ⟨rfl, rfl⟩⟩
  go_wp2_with (at_builtin; refine append_one elemRune rfl _ _ rfl rfl rfl o0 rfl ?_ ?_ ?_ ?_ ?_; (simp [Value.oneCell']); (unfold maxLen; omega); omega; (exact Nat.le_refl _); intro sv w1 ho' hg'; have HO := Lib.hid (show w1.ownsRow w.heap.size 21 1 sv ([45] : List Int).length (([45] : List Int).map (Value.int .i32)) from ho'); have HB := Lib.hid (below_appended (Below.refl w.heap.size w) o0 hg' (Nat.le_refl _) (Nat.le_refl _)); clear ho' hg')
  refine (HA.out _).mono ?_
  rintro e w' ⟨rfl, rfl⟩
  have hs := HS.out
  go_wp2_with fail
  refine (HF.out _ (HT.out.later HB.out)).mono ?_
  rintro e w2 ⟨rfl, b2⟩
  have HB2 := Lib.hid (below_step HB.out b2)
  have HO2 := Lib.hid (own_below HO.out b2)
  have hand := HM.out
  clear b2 hs
  have hc := conv_runes (w := w2) (base := w.heap.size) (v := sv) ([45] : List Int) (by decide) HO2.out
  by_cases h0 : p = 0
  · have heq : ((p : Int) == 0) = true := by simpa using h0
    have HP0 := Lib.hid h0
    clear h0
    go_wp2_with fail
    go_ret
    refine ⟨?_, HB2.out⟩
    rw [HL.out, if_pos HP0.out]
    simp [bytes_append]
  · have hne : ((p : Int) == 0) = false := by simpa using h0
    have HP0 := Lib.hid h0
    clear h0
    go_wp2_with fail
    have HC := Lib.hid hc
    have q1 : ¬ 9223372036854775807 < 1 + (Lib.decDigits d).length := by omega
    have q2 : ¬ 9223372036854775807 < (Lib.decDigits d).length := by omega
    have q3 : ¬ 9223372036854775807 < 1 + (Lib.decDigits d).length + 1 := by omega
    have q4 : ¬ 9223372036854775807 < (Lib.decDigits d).length + 1 := by omega
    have q5 : ¬ 9223372036854775807 < 1 + (Lib.decDigits d).length + 1 + (fracL k p).length := by omega
    have q6 : ¬ 9223372036854775807 < (Lib.decDigits d).length + 1 + (fracL k p).length := by omega
    refine wp_region_held_drew (S := fun w' => (convert 72 9 sv).run Tryd.prog w' = .ok (.string ⟨(([45] : List Int).map fun z => UInt8.ofNat z.toNat).toArray⟩) w') (by kernel_rfl) ?_ (fun hHeld => ?_)
    · exact conv_runes (w := w2.drew) (base := w.heap.size) (v := sv) ([45] : List Int) (by decide) (own_below HO2.out (Below.refl _ _).drew)
    clear hc
    refine wpAnyH_take (i := 0) (v := ?v1) rfl (by kernel_rfl) (by kernel_rfl) (by kernel_rfl) (fun _ _ _ h => h) (Or.inl ⟨by rfl, ?hy1⟩) (by assumption) ?rest1
    case hy1 => (intro w hSw; (try dsimp only at hSw); go_simp; (first | done | with_reducible rfl))
    simp only [Act.put, List.setIfInBounds_toArray, List.set_cons_zero, List.set_cons_succ, List.getElem_toArray, List.getElem_cons_zero]
    refine wpAnyH_take (i := 1) (v := ?v2) rfl (by kernel_rfl) (by kernel_rfl) (by kernel_rfl) (fun _ _ _ h => h) (Or.inl ⟨by rfl, ?hy2⟩) (by assumption) ?rest2
    case hy2 => (intro w hSw; (try dsimp only at hSw); go_simp; (first | done | with_reducible rfl))
    simp only [Act.put, List.setIfInBounds_toArray, List.set_cons_zero, List.set_cons_succ, List.getElem_toArray, List.getElem_cons_zero, List.getElem_cons_succ]
    refine wpAnyH_take (i := 2) (v := ?v3) rfl (by kernel_rfl) (by kernel_rfl) (by kernel_rfl) (fun _ _ _ h => h) (Or.inl ⟨by rfl, ?hy3⟩) (by assumption) ?rest3
    case hy3 => (intro w hSw; (try dsimp only at hSw); go_simp; (first | done | with_reducible rfl))
    simp only [Act.put, List.setIfInBounds_toArray, List.set_cons_zero, List.set_cons_succ, List.getElem_toArray, List.getElem_cons_zero, List.getElem_cons_succ]
    refine wpAnyH_take (i := 3) (v := ?v4) rfl (by kernel_rfl) (by kernel_rfl) (by kernel_rfl) (fun _ _ _ h => h) (Or.inl ⟨by rfl, ?hy4⟩) (by assumption) ?rest4
    case hy4 => (intro w hSw; (try dsimp only at hSw); go_simp; (first | done | with_reducible rfl))
    simp only [Act.put, List.setIfInBounds_toArray, List.set_cons_zero, List.set_cons_succ, List.getElem_toArray, List.getElem_cons_zero, List.getElem_cons_succ]
    refine wpAnyH_take (i := 4) (v := ?v5) rfl (by kernel_rfl) (by kernel_rfl) (by kernel_rfl) (fun _ _ _ h => h) (Or.inl ⟨by rfl, ?hy5⟩) (by assumption) ?rest5
    case hy5 => (intro w hSw; (try dsimp only at hSw); go_simp; (first | done | with_reducible rfl))
    simp only [Act.put, List.setIfInBounds_toArray, List.set_cons_zero, List.set_cons_succ, List.getElem_toArray, List.getElem_cons_zero, List.getElem_cons_succ]
    refine wpAnyH_take (i := 5) (v := ?v6) rfl (by kernel_rfl) (by kernel_rfl) (by kernel_rfl) (fun _ _ _ h => h) (Or.inl ⟨by rfl, ?hy6⟩) (by assumption) ?rest6
    case hy6 => (intro w hSw; (try dsimp only at hSw); go_simp; (first | done | with_reducible rfl))
    simp only [Act.put, List.setIfInBounds_toArray, List.set_cons_zero, List.set_cons_succ, List.getElem_toArray, List.getElem_cons_zero, List.getElem_cons_succ]
    refine wpAnyH_take (i := 6) (v := ?v7) rfl (by kernel_rfl) (by kernel_rfl) (by kernel_rfl) (fun _ _ _ h => h) (Or.inl ⟨by rfl, ?hy7⟩) (by assumption) ?rest7
    case hy7 => (intro w hSw; (try dsimp only at hSw); go_simp; (first | done | with_reducible rfl))
    simp only [Act.put, List.setIfInBounds_toArray, List.set_cons_zero, List.set_cons_succ, List.getElem_toArray, List.getElem_cons_zero, List.getElem_cons_succ]
    refine wpAnyH_ready (rs := [7]) (by kernel_rfl) (by simp) ?_
    refine AllReadyH.cons rfl (fun K hK => ?_) AllReadyH.nil
    simp only [List.getElem_toArray, List.getElem_cons_zero, List.getElem_cons_succ]
    go_simp
    go_at_call 49
    refine (HD.out _).mono ?_
    rintro e w3 ⟨fv, rfl, of_, b3⟩
    have HB3 := Lib.hid (below_step HB2.out.drew b3)
    have hc3 := conv_runes (w := w3) (base := w.heap.size) (v := sv) ([45] : List Int) (by decide) (own_below (own_below HO2.out (Below.refl _ _).drew) b3)
    have hc4 := conv_digits (w := w3) (fracL k p) HG.out of_
    have HC4 := Lib.hid hc4
    have HC3 := Lib.hid hc3
    clear of_ b3 hc3 hc4
    go_wp2_with fail
    refine hK.out _ _ HC3.out (fun hHeld => ?_)
    clear hK K
    try simp only [Act.put, List.setIfInBounds_toArray, List.set_cons_zero, List.set_cons_succ, List.getElem_toArray, List.getElem_cons_zero, List.getElem_cons_succ]
    have hc4 := HC4.out
    refine wpAnyH_ready (rs := [8]) (by kernel_rfl) (by simp) ?_
    refine AllReadyH.cons rfl (fun K hK => ?_) AllReadyH.nil
    simp only [List.getElem_toArray, List.getElem_cons_zero, List.getElem_cons_succ]
    go_simp
    refine hK.out _ _ HC3.out (fun hHeld => ?_)
    clear hK K hc4
    try simp only [Act.put, List.setIfInBounds_toArray, List.set_cons_zero, List.set_cons_succ, List.getElem_toArray, List.getElem_cons_zero, List.getElem_cons_succ]
    refine wpAnyH_take (i := 9) (v := ?v8) rfl (by kernel_rfl) (by kernel_rfl) (by kernel_rfl) (fun _ _ _ h => h) (Or.inl ⟨by rfl, ?hy8⟩) (by assumption) ?rest8
    case hy8 => (intro w hSw; (try dsimp only at hSw); go_simp; (first | done | with_reducible rfl))
    simp only [Act.put, List.setIfInBounds_toArray, List.set_cons_zero, List.set_cons_succ, List.getElem_toArray, List.getElem_cons_zero, List.getElem_cons_succ]
    refine wpAnyH_take (i := 10) (v := ?v9) rfl (by kernel_rfl) (by kernel_rfl) (by kernel_rfl) (fun _ _ _ h => h) (Or.inl ⟨by rfl, ?hy9⟩) (by assumption) ?rest9
    case hy9 => (intro w hSw; (try dsimp only at hSw); go_simp; (first | done | with_reducible rfl))
    simp only [Act.put, List.setIfInBounds_toArray, List.set_cons_zero, List.set_cons_succ, List.getElem_toArray, List.getElem_cons_zero, List.getElem_cons_succ]
    refine wpAnyH_done (by kernel_rfl) ?_ _
    go_wp2_with fail
    go_ret
    refine ⟨?_, HB3.out⟩
    rw [HL.out, if_neg HP0.out]
    simp [bytes_append]
set_option maxHeartbeats 4000000 in
theorem text_pos (x : Int) (k : Nat) (h0 : -9223372036854775808 ≤ x) (h1 : x ≤ 9223372036854775807) (hk : k ≤ 62) (w : World) (ht : Pow10 w) (hx : ¬ x < 0) : Calls Tryd.prog 27 #[.int .i64 x, .int .i64 k] w fun e w' => e = .returned (.string ⟨(textL x k).toArray⟩) ∧ Below w.heap.size w w' := by
  have HR := Lib.hid (fun W => right2_any (k : Int) W)
  rw [show inQ (k : Int) = true by unfold inQ; simp; omega] at HR
  have HA := Lib.hid (fun W => amount_any x h0 h1 W)
  have hu : x.natAbs < 18446744073709551616 := by omega
  have hp := pow_pos2 k
  have hq := Nat.div_le_self x.natAbs (2 ^ k)
  have hm := Nat.mod_lt x.natAbs hp
  have HF := Lib.hid (fun W t => format_any (x.natAbs / 2 ^ k) (by omega) W t)
  have HD := Lib.hid (fun W => fraction_any (x.natAbs % 2 ^ k) k hk hm W)
  have HM := Lib.hid (and_mask x.natAbs k hk hu)
  have HG := Lib.hid (fracL_digit hm)
  have hdl := dec_len (x.natAbs / 2 ^ k) (by omega)
  have hfl := fracL_length k (x.natAbs % 2 ^ k)
  have HS := Lib.hid (show (x.natAbs : Int) / 2 ^ k = ((x.natAbs / 2 ^ k : Nat) : Int) by rw [Int.natCast_ediv, Int.natCast_pow]; rfl)
  have HT := Lib.hid ht
  have HL := Lib.hid (show textL x k = [] ++ Lib.decDigits (x.natAbs / 2 ^ k) ++ (if x.natAbs % 2 ^ k = 0 then [] else 46 :: (fracL k (x.natAbs % 2 ^ k)).map digB) by unfold textL; rw [if_neg hx])
  generalize x.natAbs / 2 ^ k = d at *
  generalize x.natAbs % 2 ^ k = p at *
  generalize x.natAbs = n at *
  clear ht
  go_enter Tryd.func27, Tryd.ntmps27
  go_wp2_with fail
  refine (HR.out _).mono ?_
  rintro e w' ⟨rfl, rfl⟩
  have HO := Lib.hid (show w.ownsRow w.heap.size 21 1 (.slice none 0 0) ([] : List Int).length (([] : List Int).map (Value.int .i32)) from ⟨by rfl, .inl ⟨rfl, rfl⟩⟩)
  have HB := Lib.hid (Below.refl w.heap.size w)
  go_wp2_with fail
  refine (HA.out _).mono ?_
  rintro e w' ⟨rfl, rfl⟩
  have hs := HS.out
  go_wp2_with fail
  refine (HF.out _ (HT.out.later HB.out)).mono ?_
  rintro e w2 ⟨rfl, b2⟩
  have HB2 := Lib.hid (below_step HB.out b2)
  have HO2 := Lib.hid (own_below HO.out b2)
  have hand := HM.out
  clear b2 hs
  have hc := conv_runes (w := w2) (base := w.heap.size) (v := (.slice none 0 0)) ([] : List Int) (by decide) HO2.out
  by_cases h0 : p = 0
  · have heq : ((p : Int) == 0) = true := by simpa using h0
    have HP0 := Lib.hid h0
    clear h0
    go_wp2_with fail
    go_ret
    refine ⟨?_, HB2.out⟩
    rw [HL.out, if_pos HP0.out]
    simp [bytes_append]
  · have hne : ((p : Int) == 0) = false := by simpa using h0
    have HP0 := Lib.hid h0
    clear h0
    go_wp2_with fail
    have HC := Lib.hid hc
    have q1 : ¬ 9223372036854775807 < 1 + (Lib.decDigits d).length := by omega
    have q2 : ¬ 9223372036854775807 < (Lib.decDigits d).length := by omega
    have q3 : ¬ 9223372036854775807 < 1 + (Lib.decDigits d).length + 1 := by omega
    have q4 : ¬ 9223372036854775807 < (Lib.decDigits d).length + 1 := by omega
    have q5 : ¬ 9223372036854775807 < 1 + (Lib.decDigits d).length + 1 + (fracL k p).length := by omega
    have q6 : ¬ 9223372036854775807 < (Lib.decDigits d).length + 1 + (fracL k p).length := by omega
    refine wp_region_held_drew (S := fun w' => (convert 72 9 (.slice none 0 0)).run Tryd.prog w' = .ok (.string ⟨(([] : List Int).map fun z => UInt8.ofNat z.toNat).toArray⟩) w') (by kernel_rfl) ?_ (fun hHeld => ?_)
    · exact conv_runes (w := w2.drew) (base := w.heap.size) (v := (.slice none 0 0)) ([] : List Int) (by decide) (own_below HO2.out (Below.refl _ _).drew)
    clear hc
    refine wpAnyH_take (i := 0) (v := ?v10) rfl (by kernel_rfl) (by kernel_rfl) (by kernel_rfl) (fun _ _ _ h => h) (Or.inl ⟨by rfl, ?hy10⟩) (by assumption) ?rest10
    case hy10 => (intro w hSw; (try dsimp only at hSw); go_simp; (first | done | with_reducible rfl))
    simp only [Act.put, List.setIfInBounds_toArray, List.set_cons_zero, List.set_cons_succ, List.getElem_toArray, List.getElem_cons_zero]
    refine wpAnyH_take (i := 1) (v := ?v11) rfl (by kernel_rfl) (by kernel_rfl) (by kernel_rfl) (fun _ _ _ h => h) (Or.inl ⟨by rfl, ?hy11⟩) (by assumption) ?rest11
    case hy11 => (intro w hSw; (try dsimp only at hSw); go_simp; (first | done | with_reducible rfl))
    simp only [Act.put, List.setIfInBounds_toArray, List.set_cons_zero, List.set_cons_succ, List.getElem_toArray, List.getElem_cons_zero, List.getElem_cons_succ]
    refine wpAnyH_take (i := 2) (v := ?v12) rfl (by kernel_rfl) (by kernel_rfl) (by kernel_rfl) (fun _ _ _ h => h) (Or.inl ⟨by rfl, ?hy12⟩) (by assumption) ?rest12
    case hy12 => (intro w hSw; (try dsimp only at hSw); go_simp; (first | done | with_reducible rfl))
    simp only [Act.put, List.setIfInBounds_toArray, List.set_cons_zero, List.set_cons_succ, List.getElem_toArray, List.getElem_cons_zero, List.getElem_cons_succ]
    refine wpAnyH_take (i := 3) (v := ?v13) rfl (by kernel_rfl) (by kernel_rfl) (by kernel_rfl) (fun _ _ _ h => h) (Or.inl ⟨by rfl, ?hy13⟩) (by assumption) ?rest13
    case hy13 => (intro w hSw; (try dsimp only at hSw); go_simp; (first | done | with_reducible rfl))
    simp only [Act.put, List.setIfInBounds_toArray, List.set_cons_zero, List.set_cons_succ, List.getElem_toArray, List.getElem_cons_zero, List.getElem_cons_succ]
    refine wpAnyH_take (i := 4) (v := ?v14) rfl (by kernel_rfl) (by kernel_rfl) (by kernel_rfl) (fun _ _ _ h => h) (Or.inl ⟨by rfl, ?hy14⟩) (by assumption) ?rest14
    case hy14 => (intro w hSw; (try dsimp only at hSw); go_simp; (first | done | with_reducible rfl))
    simp only [Act.put, List.setIfInBounds_toArray, List.set_cons_zero, List.set_cons_succ, List.getElem_toArray, List.getElem_cons_zero, List.getElem_cons_succ]
    refine wpAnyH_take (i := 5) (v := ?v15) rfl (by kernel_rfl) (by kernel_rfl) (by kernel_rfl) (fun _ _ _ h => h) (Or.inl ⟨by rfl, ?hy15⟩) (by assumption) ?rest15
    case hy15 => (intro w hSw; (try dsimp only at hSw); go_simp; (first | done | with_reducible rfl))
    simp only [Act.put, List.setIfInBounds_toArray, List.set_cons_zero, List.set_cons_succ, List.getElem_toArray, List.getElem_cons_zero, List.getElem_cons_succ]
    refine wpAnyH_take (i := 6) (v := ?v16) rfl (by kernel_rfl) (by kernel_rfl) (by kernel_rfl) (fun _ _ _ h => h) (Or.inl ⟨by rfl, ?hy16⟩) (by assumption) ?rest16
    case hy16 => (intro w hSw; (try dsimp only at hSw); go_simp; (first | done | with_reducible rfl))
    simp only [Act.put, List.setIfInBounds_toArray, List.set_cons_zero, List.set_cons_succ, List.getElem_toArray, List.getElem_cons_zero, List.getElem_cons_succ]
    refine wpAnyH_ready (rs := [7]) (by kernel_rfl) (by simp) ?_
    refine AllReadyH.cons rfl (fun K hK => ?_) AllReadyH.nil
    simp only [List.getElem_toArray, List.getElem_cons_zero, List.getElem_cons_succ]
    go_simp
    go_at_call 49
    refine (HD.out _).mono ?_
    rintro e w3 ⟨fv, rfl, of_, b3⟩
    have HB3 := Lib.hid (below_step HB2.out.drew b3)
    have hc3 := conv_runes (w := w3) (base := w.heap.size) (v := (.slice none 0 0)) ([] : List Int) (by decide) (own_below (own_below HO2.out (Below.refl _ _).drew) b3)
    have hc4 := conv_digits (w := w3) (fracL k p) HG.out of_
    have HC4 := Lib.hid hc4
    have HC3 := Lib.hid hc3
    clear of_ b3 hc3 hc4
    go_wp2_with fail
    refine hK.out _ _ HC3.out (fun hHeld => ?_)
    clear hK K
    try simp only [Act.put, List.setIfInBounds_toArray, List.set_cons_zero, List.set_cons_succ, List.getElem_toArray, List.getElem_cons_zero, List.getElem_cons_succ]
    have hc4 := HC4.out
    refine wpAnyH_ready (rs := [8]) (by kernel_rfl) (by simp) ?_
    refine AllReadyH.cons rfl (fun K hK => ?_) AllReadyH.nil
    simp only [List.getElem_toArray, List.getElem_cons_zero, List.getElem_cons_succ]
    go_simp
    refine hK.out _ _ HC3.out (fun hHeld => ?_)
    clear hK K hc4
    try simp only [Act.put, List.setIfInBounds_toArray, List.set_cons_zero, List.set_cons_succ, List.getElem_toArray, List.getElem_cons_zero, List.getElem_cons_succ]
    refine wpAnyH_take (i := 9) (v := ?v17) rfl (by kernel_rfl) (by kernel_rfl) (by kernel_rfl) (fun _ _ _ h => h) (Or.inl ⟨by rfl, ?hy17⟩) (by assumption) ?rest17
    case hy17 => (intro w hSw; (try dsimp only at hSw); go_simp; (first | done | with_reducible rfl))
    simp only [Act.put, List.setIfInBounds_toArray, List.set_cons_zero, List.set_cons_succ, List.getElem_toArray, List.getElem_cons_zero, List.getElem_cons_succ]
    refine wpAnyH_take (i := 10) (v := ?v18) rfl (by kernel_rfl) (by kernel_rfl) (by kernel_rfl) (fun _ _ _ h => h) (Or.inl ⟨by rfl, ?hy18⟩) (by assumption) ?rest18
    case hy18 => (intro w hSw; (try dsimp only at hSw); go_simp; (first | done | with_reducible rfl))
    simp only [Act.put, List.setIfInBounds_toArray, List.set_cons_zero, List.set_cons_succ, List.getElem_toArray, List.getElem_cons_zero, List.getElem_cons_succ]
    refine wpAnyH_done (by kernel_rfl) ?_ _
    go_wp2_with fail
    go_ret
    refine ⟨?_, HB3.out⟩
    rw [HL.out, if_neg HP0.out]
    simp [bytes_append]
theorem text_any (x q : Int) (h0 : -9223372036854775808 ≤ x) (h1 : x ≤ 9223372036854775807) (w : World) (ht : Pow10 w) : Calls Tryd.prog 27 #[.int .i64 x, .int .i64 q] w fun e w' => e = .returned (.string ⟨(textB x q).toArray⟩) ∧ Below w.heap.size w w' := by
  cases hq : inQ q
  · exact text_out x q hq w
  · have hq' : 0 ≤ q ∧ q ≤ 62 := by unfold inQ at hq; simpa using hq
    obtain ⟨k, rfl⟩ := Int.eq_ofNat_of_zero_le hq'.1
    have e : textB x (k : Int) = textL x k := by unfold textB; rw [if_pos hq', Int.toNat_natCast]
    rw [e]
    by_cases hx : x < 0
    · exact text_neg x k h0 h1 (by omega) w ht hx
    · exact text_pos x k h0 h1 (by omega) w ht hx
end Go.Proofs.YtcnabebcckbfkaaDoor
