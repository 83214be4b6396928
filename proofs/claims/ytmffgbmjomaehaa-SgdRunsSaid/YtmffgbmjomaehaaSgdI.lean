/- Runs, as plain lists; slices of states. -/
import Derived.Test.YtmffgbmjomaehaaSgdF
namespace Go.Proofs.Ytmffgbmjomaehaa
open Go.RowKit
set_option linter.unusedVariables false
def stepS (rate mom q : Int) (s : List Int × List Int) (g : List Int) : List Int × List Int := (nextP s.1 (nextM s.2 g mom q) rate q, nextM s.2 g mom q)
def curS (rate mom q : Int) (s : List Int × List Int) (gs : List (List Int)) : List Int × List Int := gs.foldl (stepS rate mom q) s
def runL (rate mom q : Int) : List Int × List Int → List (List Int) → List (List Int × List Int)
  | _, [] => []
  | s, g :: gs => stepS rate mom q s g :: runL rate mom q (stepS rate mom q s g) gs
def runB (rate mom q : Int) : List Int × List Int → List (List Int) → Bool
  | _, [] => true
  | s, g :: gs => nextOk s.1 s.2 g && runB rate mom q (stepS rate mom q s g) gs
theorem runL_snoc (rate mom q : Int) (s : List Int × List Int) (gs : List (List Int)) (g : List Int) : runL rate mom q s (gs ++ [g]) = runL rate mom q s gs ++ [stepS rate mom q (curS rate mom q s gs) g] := by
  induction gs generalizing s with
  | nil => rfl
  | cons x xs ih => simp only [List.cons_append, runL, ih]; rfl
theorem runB_append (rate mom q : Int) (s : List Int × List Int) (gs hs : List (List Int)) : runB rate mom q s (gs ++ hs) = (runB rate mom q s gs && runB rate mom q (curS rate mom q s gs) hs) := by
  induction gs generalizing s with
  | nil => simp [runB, curS]
  | cons x xs ih => simp only [List.cons_append, runB, ih, Bool.and_assoc]; rfl
theorem curS_snoc (rate mom q : Int) (s : List Int × List Int) (gs : List (List Int)) (g : List Int) : curS rate mom q s (gs ++ [g]) = stepS rate mom q (curS rate mom q s gs) g := by unfold curS; simp
theorem runL_length (rate mom q : Int) (s : List Int × List Int) (gs : List (List Int)) : (runL rate mom q s gs).length = gs.length := by
  induction gs generalizing s with
  | nil => rfl
  | cons x xs ih => simp [runL, ih]
theorem take_more {α : Type} (l : List α) (k : Nat) (x : α) (h : l[k]? = some x) : l.take (k + 1) = l.take k ++ [x] := by
  rw [List.take_add_one, h]; rfl
theorem run_stop (rate mom q : Int) (s : List Int × List Int) (gs : List (List Int)) (k : Nat) (g : List Int) (hg : gs[k]? = some g) (hn : nextOk (curS rate mom q s (gs.take k)).1 (curS rate mom q s (gs.take k)).2 g = false) : runB rate mom q s gs = false := by
  have e : gs = (gs.take k ++ [g]) ++ gs.drop (k + 1) := by
    rw [← take_more gs k g hg, List.take_append_drop]
  rw [e, runB_append, runB_append]
  simp [runB, hn]
/-- a state whose numbers are in range, and whose lists are not too long -/
def Fine (s : List Int × List Int) : Prop := (∀ z ∈ s.1, Word z) ∧ (∀ z ∈ s.2, Word z) ∧ s.1.length * 8 ≤ 140737488351232 ∧ s.2.length * 8 ≤ 140737488351232
theorem Fine.step (rate mom q : Int) (s : List Int × List Int) (g : List Int) (h : Fine s) (hn : nextOk s.1 s.2 g = true) : Fine (stepS rate mom q s g) := by
  have hh : s.1.length = s.2.length ∧ s.1.length = g.length := by
    unfold nextOk at hn
    simpa using hn
  have hm : (nextM s.2 g mom q).length = g.length := nextM_length _ _ _ _ (by omega)
  have hp : (nextP s.1 (nextM s.2 g mom q) rate q).length = s.1.length := nextP_length _ _ _ _ (by omega)
  obtain ⟨h1, h2, h3, h4⟩ := h
  unfold stepS
  refine ⟨nextP_word _ _ _ _, nextM_word _ _ _ _, ?_, ?_⟩
  · show (nextP s.1 (nextM s.2 g mom q) rate q).length * 8 ≤ _
    omega
  · show (nextM s.2 g mom q).length * 8 ≤ _
    omega
/-- the cells of a slice of states -/
def stc (us : List (Value × Value)) : List Value := us.flatMap fun u => [u.1, u.2]
theorem stc_append (a b : List (Value × Value)) : stc (a ++ b) = stc a ++ stc b := by unfold stc; simp
theorem stc_at (us : List (Value × Value)) (j : Nat) (u : Value × Value) (h : us[j]? = some u) : (stc us)[j * 2]? = some u.1 ∧ (stc us)[j * 2 + 1]? = some u.2 := by
  induction us generalizing j with
  | nil => cases h
  | cons x xs ih =>
    have e : stc (x :: xs) = x.1 :: x.2 :: stc xs := rfl
    rw [e]
    cases j with
    | zero => cases h; exact ⟨rfl, rfl⟩
    | succ j =>
      rw [show (j + 1) * 2 = j * 2 + 1 + 1 by omega]
      simpa using ih j h
def StatesIn (W : World) (us : List (Value × Value)) (l : List (List Int × List Int)) : Prop := us.length = l.length ∧ ∀ (j : Nat) (u : Value × Value) (z : List Int × List Int), us[j]? = some u → l[j]? = some z → IntsW .i64 W.heap.size W u.1 z.1 ∧ IntsW .i64 W.heap.size W u.2 z.2
theorem StatesIn.later {A B : World} {us : List (Value × Value)} {l : List (List Int × List Int)} (h : StatesIn A us l) (b : Below A.heap.size A B) : StatesIn B us l :=
  ⟨h.1, fun j u z hu hz => ⟨(h.2 j u z hu hz).1.later b, (h.2 j u z hu hz).2.later b⟩⟩
theorem StatesIn.nil (W : World) : StatesIn W [] [] := ⟨rfl, fun j u z hu => by cases hu⟩
theorem StatesIn.snoc {W : World} {us : List (Value × Value)} {l : List (List Int × List Int)} {u : Value × Value} {z : List Int × List Int} (h : StatesIn W us l) (h1 : IntsW .i64 W.heap.size W u.1 z.1) (h2 : IntsW .i64 W.heap.size W u.2 z.2) : StatesIn W (us ++ [u]) (l ++ [z]) := by
  refine ⟨by simp [h.1], fun j u' z' hu hz => ?_⟩
  by_cases hj : j < us.length
  · rw [List.getElem?_append_left hj] at hu
    rw [List.getElem?_append_left (by rw [← h.1]; exact hj)] at hz
    exact h.2 j u' z' hu hz
  · rw [List.getElem?_append_right (by omega)] at hu
    rw [List.getElem?_append_right (by rw [← h.1]; omega)] at hz
    rw [← h.1] at hz
    have hj0 : j - us.length = 0 := by
      apply Nat.eq_zero_of_not_pos
      intro hp
      rw [List.getElem?_eq_none (by simp; omega)] at hu
      cases hu
    rw [hj0] at hu hz
    cases hu
    cases hz
    exact ⟨h1, h2⟩
theorem IntsAt.kept {W W' : World} {v : Value} {zs : List Int} {row : Option Nat} (h : IntsAt .i64 W.heap.size W v zs) (g : W.grownBy W' row) (hne : zs ≠ [] → ∀ j, v.ownBlock = some j → row ≠ some j) : IntsAt .i64 W'.heap.size W' v zs := by
  rcases h.form with ⟨rfl, rfl⟩ | ⟨b, off, cap, rfl, hcap, hb, hc⟩
  · exact IntsAt.nil
  · refine IntsAt.mk hcap (Nat.lt_of_lt_of_le hb g.size) (fun j hj => ?_)
    have hz : zs ≠ [] := fun e => by subst e; simp at hj
    have h1 := hc j hj
    rw [cell_apart g hb (hne hz b rfl), h1, List.getElem?_eq_getElem hj]
theorem IntsW.kept {W W' : World} {v : Value} {zs : List Int} {row : Option Nat} (h : IntsW .i64 W.heap.size W v zs) (g : W.grownBy W' row) (hne : zs ≠ [] → ∀ j, v.ownBlock = some j → row ≠ some j) : IntsW .i64 W'.heap.size W' v zs := by
  rcases h with h | h
  · exact .inl h
  · exact .inr (h.kept g hne)
/-- a list that lies outside some blocks -/
def Rob (I : Nat → World → Value → List Int → Prop) (X : Nat → Prop) (W : World) (v : Value) (zs : List Int) : Prop := I W.heap.size W v zs ∧ (zs ≠ [] → ∀ j, v.ownBlock = some j → j < W.heap.size ∧ ¬ X j)
def Keeps (I : Nat → World → Value → List Int → Prop) : Prop := ∀ (W W' : World) (v : Value) (zs : List Int) (row : Option Nat), I W.heap.size W v zs → W.grownBy W' row → (zs ≠ [] → ∀ j, v.ownBlock = some j → row ≠ some j) → I W'.heap.size W' v zs
theorem keepsAt : Keeps (IntsAt .i64) := fun _ _ _ _ _ h g hne => h.kept g hne
theorem keepsW : Keeps (IntsW .i64) := fun _ _ _ _ _ h g hne => h.kept g hne
theorem Rob.grown {I : Nat → World → Value → List Int → Prop} (hI : Keeps I) {X : Nat → Prop} {W W' : World} {v : Value} {zs : List Int} {row : Option Nat} (h : Rob I X W v zs) (g : W.grownBy W' row) (hr : ∀ j, row = some j → X j) : Rob I X W' v zs :=
  ⟨hI W W' v zs row h.1 g (fun hz j e er => (h.2 hz j e).2 (hr j er)), fun hz j e => ⟨Nat.lt_of_lt_of_le (h.2 hz j e).1 g.size, (h.2 hz j e).2⟩⟩
theorem Rob.turn {I : Nat → World → Value → List Int → Prop} {X Y : Nat → Prop} {W : World} {v : Value} {zs : List Int} (h : Rob I X W v zs) (hXY : ∀ j, j < W.heap.size → ¬ X j → ¬ Y j) : Rob I Y W v zs :=
  ⟨h.1, fun hz j e => ⟨(h.2 hz j e).1, hXY j (h.2 hz j e).1 (h.2 hz j e).2⟩⟩
theorem Rob.go {I : Nat → World → Value → List Int → Prop} (hI : Keeps I) {X Y : Nat → Prop} {W W' : World} {v : Value} {zs : List Int} {row : Option Nat} (h : Rob I X W v zs) (g : W.grownBy W' row) (hr : ∀ j, row = some j → X j) (hXY : ∀ j, j < W.heap.size → ¬ X j → ¬ Y j) : Rob I Y W' v zs :=
  ⟨(h.grown hI g hr).1, fun hz j e => ⟨((h.grown hI g hr).2 hz j e).1, hXY j (h.2 hz j e).1 (h.2 hz j e).2⟩⟩
theorem Rob.own {X : Nat → Prop} {base n : Nat} {e : TypeId} {W : World} {v : Value} {zs : List Int} (hn : n = zs.length) (h : W.ownsRow base e 1 v n (zs.map (Value.int .i64))) (hX : ∀ j, base ≤ j → j < W.heap.size → ¬ X j) : Rob (IntsAt .i64) X W v zs :=
  ⟨IntsAt.of_owns hn h, fun _ j ej => ⟨(h.lt j ej).2, hX j (h.lt j ej).1 (h.lt j ej).2⟩⟩
theorem Rob.ofAt {X : Nat → Prop} {W : World} {v : Value} {zs : List Int} (h : Rob (IntsAt .i64) X W v zs) : Rob (IntsW .i64) X W v zs := ⟨.inr h.1, h.2⟩
def StatesRob (X : Nat → Prop) (W : World) (us : List (Value × Value)) (l : List (List Int × List Int)) : Prop := us.length = l.length ∧ ∀ (j : Nat) (u : Value × Value) (z : List Int × List Int), us[j]? = some u → l[j]? = some z → Rob (IntsW .i64) X W u.1 z.1 ∧ Rob (IntsW .i64) X W u.2 z.2
theorem StatesRob.grown {X : Nat → Prop} {W W' : World} {us : List (Value × Value)} {l : List (List Int × List Int)} {row : Option Nat} (h : StatesRob X W us l) (g : W.grownBy W' row) (hr : ∀ j, row = some j → X j) : StatesRob X W' us l :=
  ⟨h.1, fun j u z hu hz => ⟨(h.2 j u z hu hz).1.grown keepsW g hr, (h.2 j u z hu hz).2.grown keepsW g hr⟩⟩
theorem StatesRob.turn {X Y : Nat → Prop} {W : World} {us : List (Value × Value)} {l : List (List Int × List Int)} (h : StatesRob X W us l) (hXY : ∀ j, j < W.heap.size → ¬ X j → ¬ Y j) : StatesRob Y W us l :=
  ⟨h.1, fun j u z hu hz => ⟨(h.2 j u z hu hz).1.turn hXY, (h.2 j u z hu hz).2.turn hXY⟩⟩
theorem StatesRob.go {X Y : Nat → Prop} {W W' : World} {us : List (Value × Value)} {l : List (List Int × List Int)} {row : Option Nat} (h : StatesRob X W us l) (g : W.grownBy W' row) (hr : ∀ j, row = some j → X j) (hXY : ∀ j, j < W.heap.size → ¬ X j → ¬ Y j) : StatesRob Y W' us l :=
  ⟨h.1, fun j u z hu hz => ⟨(h.2 j u z hu hz).1.go keepsW g hr hXY, (h.2 j u z hu hz).2.go keepsW g hr hXY⟩⟩
theorem StatesRob.nil (X : Nat → Prop) (W : World) : StatesRob X W [] [] := ⟨rfl, fun j u z hu => by cases hu⟩
theorem StatesRob.now {X : Nat → Prop} {W : World} {us : List (Value × Value)} {l : List (List Int × List Int)} (h : StatesRob X W us l) : StatesIn W us l := ⟨h.1, fun j u z hu hz => ⟨(h.2 j u z hu hz).1.1, (h.2 j u z hu hz).2.1⟩⟩
theorem StatesRob.snoc {X : Nat → Prop} {W : World} {us : List (Value × Value)} {l : List (List Int × List Int)} {u : Value × Value} {z : List Int × List Int} (h : StatesRob X W us l) (h1 : Rob (IntsW .i64) X W u.1 z.1) (h2 : Rob (IntsW .i64) X W u.2 z.2) : StatesRob X W (us ++ [u]) (l ++ [z]) := by
  refine ⟨by simp [h.1], fun j u' z' hu hz => ?_⟩
  by_cases hj : j < us.length
  · rw [List.getElem?_append_left hj] at hu
    rw [List.getElem?_append_left (by rw [← h.1]; exact hj)] at hz
    exact h.2 j u' z' hu hz
  · rw [List.getElem?_append_right (by omega)] at hu
    rw [List.getElem?_append_right (by rw [← h.1]; omega)] at hz
    rw [← h.1] at hz
    have hj0 : j - us.length = 0 := by
      apply Nat.eq_zero_of_not_pos
      intro hp
      rw [List.getElem?_eq_none (by simp; omega)] at hu
      cases hu
    rw [hj0] at hu hz
    cases hu
    cases hz
    exact ⟨h1, h2⟩
theorem NextRows.lt1 {ok : Bool} {base : Nat} {v u : Value} {xs ys : List Int} {w : World} (h : NextRows ok base v u xs ys w) : ∀ k, v.ownBlock = some k → base ≤ k ∧ k < w.heap.size := fun k e => by
  unfold NextRows at h
  cases ok
  · rw [if_neg (by simp)] at h
    rw [h.1] at e
    cases e
  · rw [if_pos rfl] at h
    exact h.1.lt k e
theorem NextRows.lt2 {ok : Bool} {base : Nat} {v u : Value} {xs ys : List Int} {w : World} (h : NextRows ok base v u xs ys w) : ∀ k, u.ownBlock = some k → base ≤ k ∧ k < w.heap.size := fun k e => by
  unfold NextRows at h
  cases ok
  · rw [if_neg (by simp)] at h
    rw [h.2] at e
    cases e
  · rw [if_pos rfl] at h
    exact h.2.lt k e
theorem NextRows.grown {ok : Bool} {base : Nat} {v u : Value} {xs ys : List Int} {w w' : World} {row : Option Nat} (h : NextRows ok base v u xs ys w) (g : w.grownBy w' row) (h1 : ∀ k, row = some k → v.ownBlock ≠ some k) (h2 : ∀ k, row = some k → u.ownBlock ≠ some k) : NextRows ok base v u xs ys w' := by
  unfold NextRows at h ⊢
  cases ok
  · exact h
  · rw [if_pos rfl] at h ⊢
    exact ⟨row_apart h.1 g h1, row_apart h.2 g h2⟩
theorem NextRows.mono {ok : Bool} {base base' : Nat} {v u : Value} {xs ys : List Int} {w : World} (h : NextRows ok base v u xs ys w) (hb : base' ≤ base) : NextRows ok base' v u xs ys w := by
  unfold NextRows at h ⊢
  cases ok
  · exact h
  · rw [if_pos rfl] at h ⊢
    exact ⟨owns_mono hb h.1, owns_mono hb h.2⟩
/-- where a run stands after k steps: the states so far, the rule, and the state that is next -/
def RunAt (I : Nat → World → Value → List Int → Prop) (ST : TypeId) (rate mom q : Int) (s : List Int × List Int) (gs : List (List Int)) (w : World) (st : Value) (k : Nat) (wr : World) : Prop :=
  ∃ us pv mv, runB rate mom q s (gs.take k) = true ∧ Fine (curS rate mom q s (gs.take k)) ∧ wr.ownsRow (w.heap.size + 2) ST 2 st k (stc us) ∧ StatesRob (fun j => j = w.heap.size + 1 ∨ st.ownBlock = some j) wr us (runL rate mom q s (gs.take k)) ∧
    wr.cell? ⟨w.heap.size, 0, none⟩ = some (.int .i64 rate) ∧ wr.cell? ⟨w.heap.size, 1, none⟩ = some (.int .i64 mom) ∧ wr.cell? ⟨w.heap.size, 2, none⟩ = some (.int .i64 q) ∧ wr.cell? ⟨w.heap.size + 1, 0, none⟩ = some pv ∧ wr.cell? ⟨w.heap.size + 1, 1, none⟩ = some mv ∧ wr.frozen? ⟨w.heap.size + 1, 0, none⟩ = false ∧ wr.frozen? ⟨w.heap.size + 1, 1, none⟩ = false ∧
    Rob I (fun j => j = w.heap.size + 1 ∨ st.ownBlock = some j) wr pv (curS rate mom q s (gs.take k)).1 ∧ Rob I (fun j => j = w.heap.size + 1 ∨ st.ownBlock = some j) wr mv (curS rate mom q s (gs.take k)).2 ∧ Below w.heap.size w wr
/-- what a run gives: a slice of states, and whether there is one -/
def runR (rate mom q : Int) (s : List Int × List Int) (gs : List (List Int)) : List (List Int × List Int) := if runB rate mom q s gs then runL rate mom q s gs else []
def RunIs (E : TypeId) (ok : Bool) (l : List (List Int × List Int)) (w : World) (e : Ending) (w' : World) : Prop := ∃ v us, e = .returned (.tuple #[v, .bool ok]) ∧ w'.ownsRow w.heap.size E 2 v l.length (stc us) ∧ StatesIn w' us l ∧ Below w.heap.size w w'
def encS (x : Option Addr × Nat × Nat) : Value := .slice x.1 x.2.1 x.2.2
def OwnRows (base n₀ : Nat) (w : World) (v : Value) (zss : List (List Int)) : Prop :=
  ∃ rs : List (Option Addr × Nat × Nat), rs.length = zss.length ∧ w.ownsRow base 29 1 v zss.length (rs.map encS) ∧ ∀ (j : Nat) (x : Option Addr × Nat × Nat) (zs : List Int), rs[j]? = some x → zss[j]? = some zs → IntsW .i64 n₀ w (encS x) zs
theorem OwnRows.rows {base n₀ : Nat} {w : World} {v : Value} {zss : List (List Int)} (h : OwnRows base n₀ w v zss) (h0 : n₀ ≤ w.heap.size) : RowsAt .i64 w.heap.size w v zss := by
  obtain ⟨rs, hl, ho, hr⟩ := h
  refine ⟨rs.map encS, by simpa using hl, SliceAt.of_owns ho, fun j u zs hu hz => ?_⟩
  rw [List.getElem?_map, Option.map_eq_some_iff] at hu
  obtain ⟨x, hx, rfl⟩ := hu
  exact (hr j x zs hx hz).grow h0
theorem OwnRows.later {base n₀ : Nat} {w w' : World} {v : Value} {zss : List (List Int)} (h : OwnRows base n₀ w v zss) (h0 : n₀ ≤ w.heap.size) (hb : Below w.heap.size w w') : OwnRows base n₀ w' v zss := by
  obtain ⟨rs, hl, ho, hr⟩ := h
  exact ⟨rs, hl, own_below ho hb, fun j x zs hx hz => (hr j x zs hx hz).below (hb.mono h0)⟩
theorem elemSS : Elem Try.prog 59 31 (.agg #[.slice none 0 0, .slice none 0 0]) 2 48 := ⟨Try.underlying59, info_parts (by kernel_rfl), rfl, by decide⟩
theorem elemRS : Elem Try.prog 62 26 (.agg #[.slice none 0 0, .slice none 0 0]) 2 48 := ⟨Try.underlying62, info_parts (by kernel_rfl), rfl, by decide⟩
theorem elemVV : Elem Try.prog 58 29 (.slice none 0 0) 1 24 := ⟨Try.underlying58, info_parts (by kernel_rfl), rfl, by decide⟩
end Go.Proofs.Ytmffgbmjomaehaa
