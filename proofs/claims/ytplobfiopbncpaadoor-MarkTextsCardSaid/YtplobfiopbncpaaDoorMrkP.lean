/- Layer 16: the last sign of an ASCII text: strings.LastIndexAny, HasSuffix. -/
import Derived.Test.YtplobfiopbncpaaDoorMrkU
import Derived.Test.YtplobfiopbncpaaDoorDecQ
import Derived.Lib.AsciiSet
import Derived.Deep.WholeRow
import Derived.Deep.Cut
namespace Go.Proofs.YtplobfiopbncpaaDoor
open Go.RowKit
set_option linter.unusedVariables false
theorem idx_at (l : List UInt8) (k : Nat) (b : UInt8) (hk : l[k]? = some b) (wx : World) : (Instr.index 9 (.string ⟨l.toArray⟩) (.int .i64 k)).run Tryd.prog wx = .ok (.int .u8 (b.toNat : Int)) wx := by
  have hlt : k < l.length := by
    rcases Nat.lt_or_ge k l.length with h | h
    · exact h
    · rw [List.getElem?_eq_none h] at hk; cases hk
  have hg : l[k] = b := by rw [List.getElem?_eq_getElem hlt] at hk; exact Option.some.inj hk
  have hsz : (⟨l.toArray⟩ : ByteArray).size = l.length := by simp [ByteArray.size]
  rw [run_index_string (P := Tryd.prog) wx 9 _ .i64 (k : Int) Tryd.underlying9, dif_pos ⟨by omega, by rw [hsz]; omega⟩]
  have e : ((⟨l.toArray⟩ : ByteArray)[(k : Int).toNat]'(by rw [hsz]; omega)) = b := by
    show (l.toArray)[(k : Int).toNat]'_ = _
    simp [hg]
  rw [e]
/-- the last sign of a text stands at p -/
def LastSign (l : List UInt8) (p : Nat) : Prop := p < l.length ∧ ([43, 45] : List UInt8).contains (l[p]?.getD 0) = true ∧ ∀ j, p < j → j < l.length → ([43, 45] : List UInt8).contains (l[j]?.getD 0) = false
set_option maxRecDepth 100000 in
set_option maxHeartbeats 4000000 in
theorem lastAny_long (l : List UInt8) (p : Nat) (h8 : 8 < l.length) (hl : l.length ≤ 1000) (h : LastSign l p) (w : World) :
    Calls Tryd.prog 28 #[.string ⟨l.toArray⟩, .string ⟨#[43, 45]⟩] w fun e w' => e = .returned (.int .i64 p) ∧ Below w.heap.size w w' := by
  have hM0 := Tryd.strings_makeASCIISet (fun w => by kernel_rfl) ⟨#[43, 45]⟩ w (by decide) (by
    intro j b hj
    match j, hj with
    | 0, hj => cases hj; decide
    | 1, hj => cases hj; decide
    | j + 2, hj => simp at hj)
  have hS := Lib.hid (fun n W => Tryd.strings_shouldUseASCIISet n W)
  have hC := Lib.hid (fun b x v W hc => Tryd.asciiSet_contains b x v W hc)
  have hl8 : decide ((8 : Int) < (l.length : Int)) = true := by simp; omega
  rw [show (⟨#[43, 45]⟩ : ByteArray).data.toList = [43, 45] from rfl] at hM0
  have hsz := Lib.setCells_size [43, 45]
  have hone := Lib.setCells_one [43, 45]
  have hat := Lib.setCells_at [43, 45]
  generalize Lib.setCells [43, 45] = cs at *
  have hM := Lib.hid hM0
  have hsc := run_storeCells_new (P := Tryd.prog) (w.alloc (.cells cs 74)) 74 Tryd.zeroCells74 cs (by rw [hsz]; kernel_rfl) (by rw [hsz]; kernel_rfl) hone
  rw [World.size_alloc] at hsc
  have hcell : ∀ x : UInt8, ((w.alloc (.cells cs 74)).alloc (.cells cs 74)).cell? ⟨w.heap.size + 1, x.toNat, none⟩ = some (.bool (([43, 45] : List UInt8).contains x)) := fun x => by
    rw [World.cell?_alloc_at _ _ _ _ (by simp), hat]
  have b1 := (Below.refl w.heap.size w).alloc (Nat.le_refl _) (.cells cs 74)
  have b2 := (Below.refl (w.alloc (.cells cs 74)).heap.size _).alloc (Nat.le_refl _) (.cells cs 74)
  have HX := Lib.hid (And.intro hcell (below_step b1 b2))
  clear hcell b1 b2 hM0 hone hat
  obtain ⟨hp, hpc, hno⟩ := h
  have HP := Lib.hid (And.intro hpc hno)
  clear hpc hno
  go_enter Tryd.func28, Tryd.ntmps28
  go_wp2_with fail
  refine (hS.out _ _).mono ?_
  rintro e w' ⟨rfl, rfl⟩
  go_wp2_with fail
  refine hM.out.mono ?_
  rintro e w2 ⟨rfl, rfl⟩
  go_upto_region 13 with fail
  clear hsc hsz hM
  generalize (w'.alloc (.cells cs 74)).alloc (.cells cs 74) = W2 at *
  generalize hN : w'.heap.size = N at *
  have i9 : (l.length : Int) ≤ 1000 := by omega
  go_wp2_with fail
  go_loopw [8] (fun iv wr => ∃ i : Nat, p ≤ i ∧ i < l.length ∧ iv = .int .i64 i ∧ wr = W2) (fun iv _ => (intOf iv).toNat)
  case atStart => exact ⟨l.length - 1, by omega, by omega, by go_num, rfl⟩
  case round =>
    obtain ⟨i, hpi, hil, rfl, rfl⟩ := hrel
    have hix := idx_at l i (l[i]?.getD 0) (by rw [List.getElem?_eq_getElem hil]; rfl)
    have hcx := HX.out.1 (l[i]?.getD 0)
    have i0 : (0 : Int) ≤ (i : Int) := by omega
    have i1 : (i : Int) < (l.length : Int) := by omega
    by_cases he : i = p
    · subst he
      rw [HP.out.1] at hcx
      generalize l[i]?.getD 0 = x at *
      go_wp2_with fail
      refine (hC.out _ _ _ _ hcx).mono ?_
      rintro e w3 ⟨rfl, rfl⟩
      go_wp2_with fail
      go_ret
      exact ⟨rfl, by rw [hN]; exact HX.out.2⟩
    · rw [HP.out.2 i (by omega) hil] at hcx
      generalize l[i]?.getD 0 = x at *
      have i2 : (1 : Int) ≤ (i : Int) := by omega
      go_wp2_with fail
      refine (hC.out _ _ _ _ hcx).mono ?_
      rintro e w3 ⟨rfl, rfl⟩
      go_wp2_with fail
      go_roundw
      case rel => exact ⟨i - 1, by omega, by omega, by go_num, by first | rfl | trivial⟩
      case measure => simp [intOf]; omega
set_option maxRecDepth 8000 in
theorem decodeLast_any (l : List UInt8) (b : UInt8) (n : Nat) (hn : l.length = n + 1) (hb : l[n]? = some b) (h128 : b.toNat < 128) (hl : l.length ≤ 1000) (w : World) :
    Calls Tryd.prog 42 #[.string ⟨l.toArray⟩] w fun e w' => e = .returned (.tuple #[.int .i32 b.toNat, .int .i64 1]) ∧ w = w' := by
  have hix := idx_at l n b hb
  have e1 : (l.length : Int) = (n : Int) + 1 := by omega
  have g1 : ((l.length : Int) == 0) = false := by rw [e1]; simp; omega
  have g2 : ¬ (l.length : Int) = 0 := by omega
  have i0 : (b.toNat : Int) < 128 := by omega
  have i1 : (0 : Int) ≤ (b.toNat : Int) := by omega
  have g3 : decide ((b.toNat : Int) < 128) = true := by simp; omega
  have i9 : (n : Int) ≤ 1000 := by omega
  generalize b.toNat = bn at *
  go_enter Tryd.func42, Tryd.ntmps42
  go_wp2_with fail
  go_ret2
  exact ⟨rfl, rfl⟩
theorem indexByte_sign (b : UInt8) : (0 ≤ Lib.indexByte [43, 45] b) = (([43, 45] : List UInt8).contains b = true) := by
  have h := Lib.contains_iff_indexByte ([43, 45] : List UInt8) b
  rw [h]; simp
set_option maxRecDepth 100000 in
set_option maxHeartbeats 4000000 in
theorem lastAny_short (l : List UInt8) (p : Nat) (h8 : l.length ≤ 8) (h2 : 2 ≤ l.length) (hasc : ∀ j, j < l.length → (l[j]?.getD 0).toNat < 128) (h : LastSign l p) (w : World) :
    Calls Tryd.prog 28 #[.string ⟨l.toArray⟩, .string ⟨#[43, 45]⟩] w fun e w' => e = .returned (.int .i64 p) ∧ Below w.heap.size w w' := by
  have hS := Lib.hid (fun n W => Tryd.strings_shouldUseASCIISet n W)
  have hl8 : decide ((8 : Int) < (l.length : Int)) = false := by simp; omega
  obtain ⟨hp, hpc, hno⟩ := h
  have HP := Lib.hid (And.intro hpc hno)
  have HA := Lib.hid hasc
  have g1 : ¬ (l.length : Int) = 1 := by omega
  have g2 : ((l.length : Int) == 1) = false := by simp; omega
  clear hpc hno hasc
  go_enter Tryd.func28, Tryd.ntmps28
  go_wp2_with fail
  refine (hS.out _ _).mono ?_
  rintro e w' ⟨rfl, rfl⟩
  go_wp2_with fail
  go_loopw [13, 14, 15] (fun iv _ _ wr => ∃ i : Nat, p < i ∧ i ≤ l.length ∧ iv = .int .i64 i ∧ wr = w') (fun iv _ _ _ => (intOf iv).toNat)
  case atStart => exact ⟨l.length, hp, Nat.le_refl _, rfl, rfl⟩
  case round =>
    obtain ⟨i, hpi, hil, rfl, rfl⟩ := hrel
    obtain ⟨k, rfl⟩ : ∃ k, i = k + 1 := ⟨i - 1, by omega⟩
    have hb : (l.take (k + 1))[k]? = some (l[k]?.getD 0) := by
      rw [List.getElem?_take, if_pos (by omega), List.getElem?_eq_getElem (by omega)]; rfl
    have hlen : (l.take (k + 1)).length = k + 1 := by rw [List.length_take]; omega
    have HD := Lib.hid (fun W => decodeLast_any (l.take (k + 1)) (l[k]?.getD 0) k hlen hb (HA.out k (by omega)) (by omega) W)
    have hex := extract_list l 0 (k + 1)
    rw [List.drop_zero, Nat.sub_zero] at hex
    have HI := Lib.hid (fun W => Tryd.strings_IndexRune_ascii ⟨#[43, 45]⟩ ((l[k]?.getD 0).toNat : Int) W (by omega) (by have := HA.out k (by omega); omega))
    have hsg := indexByte_sign (l[k]?.getD 0)
    have hback : (((l[k]?.getD 0).toNat : Int)).toNat.toUInt8 = l[k]?.getD 0 := by simp
    rw [hback, show (⟨#[43, 45]⟩ : ByteArray).data.toList = [43, 45] from rfl] at HI
    have c1 : ((k + 1 : Nat) : Int) = (k : Int) + 1 := by omega
    have c2 : (k : Int) ≤ 8 := by omega
    have c3 : (k : Int) + 1 ≤ (l.length : Int) := by omega
    have c4 : k + 1 ≤ l.length := hil
    have hb128 : ((l[k]?.getD 0).toNat : Int) < 128 := by have := HA.out k (by omega); omega
    clear hb hlen
    by_cases he : k = p
    · subst he
      rw [HP.out.1] at hsg
      have hge : 0 ≤ Lib.indexByte [43, 45] (l[k]?.getD 0) := by rw [hsg]
      clear hsg hback
      generalize l[k]?.getD 0 = b at *
      go_wp2_with fail
      refine (HD.out _).mono ?_
      rintro e w3 ⟨rfl, rfl⟩
      go_wp2_with fail
      refine (HI.out _).mono ?_
      rintro e w4 ⟨rfl, rfl⟩
      go_wp2_with fail
      go_ret
      exact ⟨by first | rfl | simp, Below.refl _ _⟩
    · rw [HP.out.2 k (by omega) (by omega)] at hsg
      have hge : ¬ 0 ≤ Lib.indexByte [43, 45] (l[k]?.getD 0) := by rw [hsg]; decide
      clear hsg hback
      generalize l[k]?.getD 0 = b at *
      go_wp2_with fail
      refine (HD.out _).mono ?_
      rintro e w3 ⟨rfl, rfl⟩
      go_wp2_with fail
      refine (HI.out _).mono ?_
      rintro e w4 ⟨rfl, rfl⟩
      go_wp2_with fail
      go_roundw
      case rel => exact ⟨k, by omega, by omega, by go_num, by first | rfl | trivial⟩
      case measure => simp [intOf]
theorem lastAny_any (l : List UInt8) (p : Nat) (h2 : 2 ≤ l.length) (hl : l.length ≤ 1000) (hasc : ∀ j, j < l.length → (l[j]?.getD 0).toNat < 128) (h : LastSign l p) (w : World) :
    Calls Tryd.prog 28 #[.string ⟨l.toArray⟩, .string ⟨#[43, 45]⟩] w fun e w' => e = .returned (.int .i64 p) ∧ Below w.heap.size w w' := by
  by_cases h8 : l.length ≤ 8
  · exact lastAny_short l p h8 h2 hasc h w
  · exact lastAny_long l p (by omega) hl h w
end Go.Proofs.YtplobfiopbncpaaDoor
