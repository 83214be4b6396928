/- Layer 8: names of parameters; the chapter's example. -/
import Derived.Test.YtdnaildhcnekfaaDoorShpF
namespace Go.Proofs.YtdnaildhcnekfaaDoor
open Go.RowKit
set_option linter.unusedVariables false
/-- the numbers in a name, and its letter -/
def numsP (p : Int × Int × Int × Bool) : List Int := if p.2.2.1 < 0 then [p.1, p.2.1] else [p.1, p.2.1, p.2.2.1]
def nameP (D : Int → List UInt8) (p : Int × Int × Int × Bool) : ByteArray :=
  if p.2.2.2 = false then ⟨#[]⟩ else if p.2.2.1 < 0 then joinT ⟨#[98]⟩ D (numsP p) else joinT ⟨#[119]⟩ D (numsP p)
set_option maxRecDepth 4000 in
set_option maxHeartbeats 1000000 in
theorem name_any (D : Int → List UInt8) (N b : Nat) (ss : List Int) (hr : RightH ss) (i : Int) (hi : -9223372036854775808 ≤ i ∧ i ≤ 9223372036854775807) (w : World) (h : ShapeAt N b w ss)
    (hD : (placeP ss i).2.2.2 = true → ∀ z ∈ numsP (placeP ss i), Says D z w)
    (hlen : (Lib.join ((strL D (numsP (placeP ss i))).map (·.data.toList)) [46]).length ≤ 1000) :
    Calls Tryd.prog 24 #[.pointer (some ⟨b, 0, none⟩), .int .i64 i] w fun e w' => e = .returned (.string (nameP D (placeP ss i))) ∧ Below w.heap.size w w' := by
  have HP := place_any N b ss hr i hi w h
  clear h
  generalize placeP ss i = p at *
  obtain ⟨k, r, c, ok⟩ := p
  dsimp only at *
  have HD := Lib.hid hD
  have HLN := Lib.hid hlen
  clear hD hlen
  go_enter Tryd.func24, Tryd.ntmps24
  go_wp2_with fail
  refine HP.mono ?_
  rintro e w1 ⟨rfl, b1⟩
  have B1 := Lib.hid b1
  clear HP b1
  cases ok with
  | false =>
    go_wp2_with fail
    go_ret
    exact ⟨rfl, B1.out⟩
  | true =>
    by_cases hc : c < 0
    · have g1 : decide (c < 0) = true := by simpa using hc
      have hn : Hid (numsP (k, r, c, true) = [k, r]) := Lib.hid (if_pos hc)
      have c2 := (Below.refl w1.heap.size w1).alloc (Nat.le_refl _) (.cells #[.int .i64 k, .int .i64 r] 3)
      have hI := IntsAt.fresh (q := .i64) (w := w1) (cs := #[.int .i64 k, .int .i64 r]) (e := 3) (zs := [k, r]) rfl
      have B2 := Lib.hid (B1.out.trans (c2.mono B1.out.size))
      have hl := HLN.out
      rw [hn.out] at hl
      have hS := HD.out rfl
      rw [hn.out] at hS
      have HJ := Lib.hid (join_any ⟨#[98]⟩ D _ [k, r] (by simp) (by simp) (by decide) _ hI (fun z hz => (hS z hz).later B2.out) hl)
      have hnm : Hid (nameP D (k, r, c, true) = joinT ⟨#[98]⟩ D [k, r]) := Lib.hid (by unfold nameP; rw [if_neg (by simp), if_pos hc, hn.out])
      clear hI hl hS c2 HD HLN B1
      go_wp2_with fail
      refine HJ.out.mono ?_
      rintro e w3 ⟨rfl, b3⟩
      have B3 := Lib.hid (B2.out.trans (b3.mono B2.out.size))
      clear b3 HJ
      go_wp2_with fail
      go_ret
      exact ⟨by rw [hnm.out]; rfl, B3.out⟩
    · have g1 : decide (c < 0) = false := by simpa using hc
      have hn : Hid (numsP (k, r, c, true) = [k, r, c]) := Lib.hid (if_neg hc)
      have c2 := (Below.refl w1.heap.size w1).alloc (Nat.le_refl _) (.cells #[.int .i64 k, .int .i64 r, .int .i64 c] 3)
      have hI := IntsAt.fresh (q := .i64) (w := w1) (cs := #[.int .i64 k, .int .i64 r, .int .i64 c]) (e := 3) (zs := [k, r, c]) rfl
      have B2 := Lib.hid (B1.out.trans (c2.mono B1.out.size))
      have hl := HLN.out
      rw [hn.out] at hl
      have hS := HD.out rfl
      rw [hn.out] at hS
      have HJ := Lib.hid (join_any ⟨#[119]⟩ D _ [k, r, c] (by simp) (by simp) (by decide) _ hI (fun z hz => (hS z hz).later B2.out) hl)
      have hnm : Hid (nameP D (k, r, c, true) = joinT ⟨#[119]⟩ D [k, r, c]) := Lib.hid (by unfold nameP; rw [if_neg (by simp), if_neg hc, hn.out])
      clear hI hl hS c2 HD HLN B1
      go_wp2_with fail
      refine HJ.out.mono ?_
      rintro e w3 ⟨rfl, b3⟩
      have B3 := Lib.hid (B2.out.trans (b3.mono B2.out.size))
      clear b3 HJ
      go_wp2_with fail
      go_ret
      exact ⟨by rw [hnm.out]; rfl, B3.out⟩
def smallD (z : Int) : List UInt8 := Lib.decDigits z.toNat
theorem says_small (i : Nat) (hi : i < 100) (w : World) : Says smallD (i : Int) w := fun W hW =>
  (Tryd.strconv_Itoa_small i hi W).mono fun e w' h => ⟨by rw [h.1]; unfold smallD; rw [Int.toNat_natCast], by rw [h.2]; exact Below.refl _ _⟩
theorem small0 : smallD 0 = [48] := by unfold smallD; rw [show (0 : Int).toNat = 0 from rfl, Lib.decDigits, dif_pos (by decide)]; rfl
theorem small1 : smallD 1 = [49] := by unfold smallD; rw [show (1 : Int).toNat = 1 from rfl, Lib.decDigits, dif_pos (by decide)]; rfl
theorem aliveRight : RightH [2, 3, 1] := codeH_zero.1 (by decide)
theorem alive08_any (w : World) : Calls Tryd.prog 8 #[] w fun e w' => e = .returned (.bool true) ∧ Below w.heap.size w w' := by
  have c1 := (Below.refl w.heap.size w).alloc (Nat.le_refl _) (.cells #[.int .i64 2, .int .i64 3, .int .i64 1] 3)
  have hI := IntsAt.fresh (q := .i64) (w := w) (cs := #[.int .i64 2, .int .i64 3, .int .i64 1]) (e := 3) (zs := [2, 3, 1]) rfl
  have HN := Lib.hid (shapeNew_any _ [2, 3, 1] (by decide) _ (.inr hI))
  clear hI
  go_enter Tryd.func8, Tryd.ntmps8
  go_wp2_with fail
  refine HN.out.mono ?_
  rintro e w2 (⟨_, b, rfl, hS, b2⟩ | ⟨hne, _⟩)
  · have B2 := Lib.hid (c1.trans (b2.mono c1.size))
    have hC := count_shape _ b [2, 3, 1] (by decide) w2 hS
    rw [show stTo [2, 3, 1] (([2, 3, 1] : List Int).length - 1) = 13 by decide] at hC
    have HSS := Lib.hid hS
    clear HN c1 b2 hS
    go_wp2_with fail
    refine hC.mono ?_
    rintro e w3 ⟨rfl, b3⟩
    have hp : placeP [2, 3, 1] 7 = (0, 1, -1, true) := by decide
    have hnm := name_any smallD _ b [2, 3, 1] aliveRight 7 (by decide) w3 (HSS.out.later b3) (fun _ z hz => by
      rw [hp] at hz
      simp [numsP] at hz
      rcases hz with rfl | rfl
      · exact says_small 0 (by decide) w3
      · exact says_small 1 (by decide) w3) (by
      rw [hp]
      simp [numsP, strL, small0, small1, Lib.join, List.intercalate])
    rw [hp, show nameP smallD (0, 1, -1, true) = ⟨#[98, 48, 46, 49]⟩ by simp [nameP, numsP, joinT, strL, small0, small1, Lib.join, List.intercalate]; rfl] at hnm
    have B3 := Lib.hid (B2.out.trans (b3.mono B2.out.size))
    clear hC HSS B2 b3 hp
    go_wp2_with fail
    refine hnm.mono ?_
    rintro e w4 ⟨rfl, b4⟩
    have B4 := Lib.hid (B3.out.trans (b4.mono B3.out.size))
    clear hnm b4 B3
    go_wp2_with fail
    go_ret
    exact ⟨by first | rfl | simp, B4.out⟩
  · exact absurd (by decide) hne
end Go.Proofs.YtdnaildhcnekfaaDoor
