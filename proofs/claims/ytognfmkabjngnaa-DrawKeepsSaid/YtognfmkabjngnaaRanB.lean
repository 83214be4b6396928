/- A range over a method value (a function value with its receiver bound): elements are numbered. -/
import Derived.Test.YtognfmkabjngnaaGen
import Derived.RangeFuncNested
namespace Go.Proofs.Ytognfmkabjngnaa
open Go.RowKit
set_option linter.unusedVariables false
/-- what an iterator with bound arguments does: it yields the elements 0 .. N - 1, as long as yield says so; what it needs of the world lasts as long as the body keeps it -/
def Yields (F : Fence) (n : Nat) (P : Program) (f : Nat) (rb lb : Array Value) (enc : Nat → Array Value) (N : Nat) (Need : World → Prop) (w : World) : Prop :=
  ∀ (l : Nat) (J Jx : Nat → World → Prop) (W : World), w.heap.size ≤ W.heap.size → AbidesFrom W.heap.size J → (∀ k W1, J k W1 → Need W1) →
    (∀ k W1, k < N → J k W1 → YieldAt F (n - 1) P l (enc k) W1 fun e W' => (e = .returned (.bool true) ∧ J (k + 1) W') ∨ (e = .returned (.bool false) ∧ Jx (k + 1) W')) →
    J 0 W → CallsIn F n P f (rb ++ #[.func (.yield l) #[] #[]] ++ lb) W fun e W' => (∃ v, e = .returned v) ∧ (J N W' ∨ ∃ k, Jx k W')
/-- how a round may end -/
def roundEnd (B : Nat) (I : Nat → World → Prop) (Ix : Code → Nat → World → Prop) (k : Nat) (W : World) : Exit → Act → World → Prop
  | .normal, _, W' => KeepsFrom B W W' ∧ I (k + 1) W'
  | .ret, _, W' => KeepsFrom B W W' ∧ Ix .ret (k + 1) W'
  | .exit id, _, W' => KeepsFrom B W W' ∧ Ix (.exit id) (k + 1) W'
  | _, _, _ => False
section
variable {F : Fence} {n : Nat} {P : Program}
/-- the two blocks that a range over a function lays: where its record stands, and that nothing is deferred -/
def LoopBlocks (B : Nat) (r : Loop) (W : World) : Prop := W.heap[B + 1]? = some (.loop r) ∧ W.heap[B]? = some (.deferred (some []))
theorem LoopBlocks.lt {B : Nat} {r : Loop} {W : World} (h : LoopBlocks B r W) : B + 1 < W.heap.size := (Array.getElem?_eq_some_iff.1 h.1).1
theorem LoopBlocks.put {B : Nat} {r : Loop} {W : World} (h : LoopBlocks B r W) (r' : Loop) : LoopBlocks B r' (W.putObj (B + 1) (.loop r')) :=
  ⟨World.putObj_heap_same h.lt, (World.putObj_heap_other (by omega)).trans h.2⟩
theorem LoopBlocks.keeps {B : Nat} {r : Loop} {W W' : World} (h : LoopBlocks B r W) (k : KeepsFrom B W W') : LoopBlocks B r W' :=
  ⟨k.same _ _ (by omega) h.1 rfl, k.same _ _ (Nat.le_refl _) h.2 rfl⟩
theorem LoopBlocks.new (w : World) (r : Loop) : LoopBlocks w.heap.size r ((w.alloc (.deferred (some []))).alloc (.loop r)) := by
  have e1 := World.alloc_heap_new (w.alloc (.deferred (some []))) (.loop r)
  rw [World.size_alloc] at e1
  exact ⟨e1, (Below.heap_alloc _ _ _ (by simp)).trans (World.alloc_heap_new w _)⟩
theorem LoopBlocks.abides (B : Nat) {r : Loop} {A C : World} {row : Option Nat} (h : LoopBlocks B r A) (hg : A.grownBy C row) (hr : ∀ k, row = some k → ∃ o : Obj, A.heap[k]? = some o ∧ o.isWalk = true) : LoopBlocks B r C :=
  ⟨(grownBy_keeps hg hr h.1 rfl).trans h.1, (grownBy_keeps hg hr h.2 rfl).trans h.2⟩
/-- the law: I holds ahead of the k-th round; Ix where the loop is left early -/
theorem wpIn_range_bound {g : Operand} {ps : Array Tmp} {assign body : Code} {Q : Exit → Act → World → Prop} {a : Act} {w : World}
    (hro : F.round = none) (h1 : 1 ≤ n) {gf : Nat} {rb lb : Array Value} (hg : a.eval g = .func (.func gf) rb lb) (hFg : F.fn gf) (eg : ∀ args w, (callFunc gf args).run P w = .ok (.enter gf args) w)
    {enc : Nat → Array Value} {N : Nat} {Need : World → Prop} (hseq : Yields F (n - 1) P gf rb lb enc N Need w) (hps : ∀ k, (enc k).size = ps.size)
    (I : Nat → World → Prop) (Ix : Code → Nat → World → Prop) (hI : OwnFrom w.heap.size I) (hIx : ∀ c, OwnFrom w.heap.size (Ix c)) (hN : ∀ k W, I k W → Need W) (h0 : I 0 w) (a₁ : Nat → Act)
    (hassign : ∀ (l k : Nat) (W : World) (K : Act → World → Prop), K (a₁ k) W →
      assign.wpIn (F.inRound l) (n - 1 - 1) P (Exit.then K (fun _ _ _ => False)) { tmps := (ps.zip (enc k)).foldl (fun t (p, v) => t.setIfInBounds p v) a.tmps, defers := [] } W)
    (hbody : ∀ (l k : Nat) (W : World), k < N → I k W → body.wpIn (F.inRound l) (n - 1 - 1) P (roundEnd w.heap.size I Ix k W) (a₁ k) W)
    (hdone : ∀ (D : Nat) (W : World), w.heap.size ≤ D → I N W → W.heap[D]? = some (.deferred (some [])) → Q .normal { a with defers := { target := .collected D, args := #[] } :: a.defers } W)
    (hstop : ∀ (D k : Nat) (c : Code) (W : World), w.heap.size ≤ D → Ix c k W → W.heap[D]? = some (.deferred (some [])) → c.wpIn F n P Q { a with defers := { target := .collected D, args := #[] } :: a.defers } W) :
    (Code.rangeFunc g ps assign body).wpIn F n P Q a w := by
  refine wpIn_rangeFunc fun fn hfn => ?_
  rw [hro]
  obtain ⟨R, hR⟩ : ∃ R : LoopState → Option Code → Loop, R = fun s j => { state := s, pending := j, fn, tmps := a.tmps, params := ps, assign, body, defers := w.heap.size } := ⟨_, rfl⟩
  have hW1 := LoopBlocks.new w (R .ready none)
  have hi1 : I 0 ((w.alloc (.deferred (some []))).alloc (.loop (R .ready none))) := hI.alloc _ (hI.alloc _ h0)
  have hs1 : w.heap.size + 2 = ((w.alloc (.deferred (some []))).alloc (.loop (R .ready none))).heap.size := by simp
  have hent := run_enterLoop_outer (P := P) (w := w) fn a.tmps ps assign body
  rw [show ({ state := .ready, pending := none, fn, tmps := a.tmps, params := ps, assign, body, defers := w.heap.size } : Loop) = R .ready none by rw [hR]] at hent
  generalize (w.alloc (.deferred (some []))).alloc (.loop (R .ready none)) = W1 at hW1 hi1 hs1 hent
  refine ⟨w.heap.size + 1, [{ target := .collected w.heap.size, args := #[] }], W1, { target := .fn (.func gf) lb, args := rb ++ #[.func (.yield (w.heap.size + 1)) #[] #[]] }, W1, gf,
    rb ++ #[.func (.yield (w.heap.size + 1)) #[] #[]] ++ lb, W1, hent, ?_, ?_, ?_, fun _ => h1, ?_⟩
  · simp only [resolve, hg]
    simp [go_sem]
  · intro f' hf'
    simp [Target.leads] at hf'
    subst hf'
    exact hFg
  · simp [invoke, go_sem, eg]
  · refine (hseq (w.heap.size + 1) (fun k W => I k W ∧ LoopBlocks w.heap.size (R .ready none) W) (fun k W => ∃ c, Ix c k W ∧ LoopBlocks w.heap.size (R .done (some c)) W) W1 (by omega) ?_ (fun k W h => hN k W h.1) ?_ ⟨hi1, hW1⟩).mono ?_
    · intro k A C row hs hgr hr
      refine ⟨hI k A C row hs.1 hgr (fun r e => ?_), hs.2.abides _ hgr (fun r e => (hr r e).2)⟩
      obtain ⟨hB, o, ho, hw⟩ := hr r e
      exact ⟨by omega, o, ho, Obj.not_cells_of_walk hw⟩
    · rintro k W hk ⟨hi, hl⟩
      have hy := run_yield (P := P) (args := enc k) hl.1 (by rw [hR]; exact hps k)
      rw [hR] at hy
      refine ⟨fn, _, assign, body, hy, roundIn_of_wpIn hfn (hassign _ k W _ ?_)⟩
      refine ⟨_, run_beginRound hl.1 (by rw [hR]), ?_⟩
      have e2 : ({ R .ready none with state := .busy } : Loop) = R .busy none := by rw [hR]
      rw [e2]
      have hl2 := hl.put (R .busy none)
      refine wpIn_mono (hbody _ k _ hk (hI.putObj _ hi (by omega) hl.1 rfl)) ?_
      have ends : ∀ (j : Option Code) (W3 : World), LoopBlocks w.heap.size (R .busy none) W3 → (Instr.endRound (w.heap.size + 1) j).run P W3 = .ok (.bool j.isNone) (W3.putObj (w.heap.size + 1) (.loop (R (if j.isNone then .ready else .done) j))) := by
        intro j W3 h3
        have := run_endRound (P := P) j h3.1
        rw [hR] at this ⊢
        exact this
      rintro e a3 W3 hp
      cases e with
      | normal =>
        obtain ⟨hk3, hi3⟩ := hp
        have h3 := hl2.keeps hk3
        exact ⟨_, _, ends none W3 h3, .inl ⟨rfl, hI.putObj _ hi3 (by omega) h3.1 rfl, h3.put _⟩⟩
      | ret =>
        obtain ⟨hk3, hi3⟩ := hp
        have h3 := hl2.keeps hk3
        exact ⟨_, _, ends (some .ret) W3 h3, .inr ⟨rfl, .ret, (hIx _).putObj _ hi3 (by omega) h3.1 rfl, h3.put _⟩⟩
      | exit id =>
        obtain ⟨hk3, hi3⟩ := hp
        have h3 := hl2.keeps hk3
        exact ⟨_, _, ends (some (.exit id)) W3 h3, .inr ⟨rfl, .exit id, (hIx _).putObj _ hi3 (by omega) h3.1 rfl, h3.put _⟩⟩
      | goto t => exact hp.elim
      | panic ch => exact hp.elim
      | outgrown => exact hp.elim
    · rintro e W2 ⟨⟨v, rfl⟩, (⟨hi, hl⟩ | ⟨k, c, hi, hl⟩)⟩
      · have hend := run_endLoop (P := P) hl.1 (by rw [hR]; simp)
        rw [hR] at hend
        refine ⟨none, _, hend, hdone _ _ (Nat.le_refl _) (hI.putObj _ hi (by omega) hl.1 rfl) ((World.putObj_heap_other (by omega)).trans hl.2)⟩
      · have hend := run_endLoop (P := P) hl.1 (by rw [hR]; simp)
        rw [hR] at hend
        refine ⟨some c, _, hend, hstop _ k c _ (Nat.le_refl _) ((hIx c).putObj _ hi (by omega) hl.1 rfl) ((World.putObj_heap_other (by omega)).trans hl.2)⟩
end
end Go.Proofs.Ytognfmkabjngnaa
