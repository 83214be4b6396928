/- Layer 10: Parse of any text. -/
import Derived.Test.YtcnabebcckbfkaaDoorDatJ
namespace Go.Proofs.YtcnabebcckbfkaaDoor
open Go.RowKit
set_option linter.unusedVariables false
def rng (xs : List Int) : Prop := ∀ z ∈ xs, -9223372036854775808 ≤ z ∧ z ≤ 9223372036854775807
theorem inQ_iff {q : Int} (h : inQ q = true) : 0 ≤ q ∧ q ≤ 62 := by unfold inQ at h; simpa using h
theorem textB_nat (x : Int) {k : Nat} (hk : k ≤ 62) : textB x (k : Int) = textL x k := by unfold textB; rw [if_pos (by omega), Int.toNat_natCast]
theorem textQ_char {x q : Int} (hq : inQ q = true) {b : UInt8} (h : b ∈ textB x q) : b.toNat = 45 ∨ b.toNat = 46 ∨ (48 ≤ b.toNat ∧ b.toNat ≤ 57) := by
  obtain ⟨k, rfl, hk⟩ := inQ_nat hq
  rw [textB_nat x hk] at h
  unfold textL at h
  rw [List.mem_append, List.mem_append] at h
  have dig : ∀ {ds : List Nat}, (∀ d ∈ ds, d < 10) → b ∈ ds.map digB → 48 ≤ b.toNat ∧ b.toNat ≤ 57 := by
    intro ds hd hb
    obtain ⟨d, hm, rfl⟩ := List.mem_map.1 hb
    have := hd d hm
    rw [digB_toNat this]
    omega
  rcases h with (h | h) | h
  · split at h
    · simp at h; subst h; exact .inl rfl
    · simp at h
  · rw [dec_digs] at h
    exact .inr (.inr (dig (digsN_lt _) h))
  · split at h
    · simp at h
    · rcases List.mem_cons.1 h with rfl | h
      · exact .inr (.inl rfl)
      · exact .inr (.inr (dig (fracL_digit (Nat.mod_lt _ (Nat.two_pow_pos k))) h))
theorem textQ_no32 (x : Int) {q : Int} (hq : inQ q = true) : (32 : UInt8) ∉ textB x q := fun h => by
  have := textQ_char hq h
  have e : (32 : UInt8).toNat = 32 := rfl
  omega
theorem textQ_not62 (x : Int) {q : Int} (hq : inQ q = true) : textB x q ≠ [62] := fun h => by
  have h2 : (62 : UInt8) ∈ textB x q := by rw [h]; simp
  have := textQ_char hq h2
  have e : (62 : UInt8).toNat = 62 := rfl
  omega
theorem textQ_injB {x y q : Int} (hq : inQ q = true) (h : textB x q = textB y q) : x = y := by
  obtain ⟨k, rfl, hk⟩ := inQ_nat hq
  rw [textB_nat x hk, textB_nat y hk] at h
  exact textL_inj (by omega) h
theorem textsQ_inj {q : Int} (hq : inQ q = true) : ∀ {xs ys : List Int}, xs.map (textB · q) = ys.map (textB · q) → xs = ys
  | [], [], _ => rfl
  | [], y :: ys, h => by simp at h
  | x :: xs, [], h => by simp at h
  | x :: xs, y :: ys, h => by
    simp only [List.map_cons, List.cons.injEq] at h
    rw [textQ_injB hq h.1, textsQ_inj hq h.2]
/-- the words of an example's text -/
def exWords (xs ys : List Int) (q : Int) : List (List UInt8) := xs.map (textB · q) ++ [62] :: ys.map (textB · q)
theorem textX_words (xs ys : List Int) (q : Int) : textX xs ys q = Lib.join (exWords xs ys q) [32] := by
  unfold textX exWords
  have e : (wordsB xs ys q).map (·.data.toList) = xs.map (textB · q) ++ [62] :: ys.map (textB · q) := by
    simp [wordsB, strB]
    rfl
  rw [e]
theorem exWords_no32 (xs ys : List Int) {q : Int} (hq : inQ q = true) : ∀ w ∈ exWords xs ys q, (32 : UInt8) ∉ w := by
  intro w hw
  rcases List.mem_append.1 hw with h | h
  · obtain ⟨x, _, rfl⟩ := List.mem_map.1 h; exact textQ_no32 x hq
  · rcases List.mem_cons.1 h with rfl | h
    · decide
    · obtain ⟨x, _, rfl⟩ := List.mem_map.1 h; exact textQ_no32 x hq
theorem words_of_text {xs ys : List Int} {q : Int} (hq : inQ q = true) {x : List UInt8} {ws : List (List UInt8)} (hn : ∀ w ∈ x :: ws, (32 : UInt8) ∉ w) (h : textX xs ys q = x ++ Lib.joinTail [32] ws) : exWords xs ys q = x :: ws := by
  rw [textX_words] at h
  have n1 := exWords_no32 xs ys hq
  generalize he : exWords xs ys q = l at *
  cases l with
  | nil => unfold exWords at he; simp at he
  | cons y r =>
    rw [Lib.join_cons] at h
    exact join_inj n1 hn h
theorem no62 (xs : List Int) {q : Int} (hq : inQ q = true) : ([62] : List UInt8) ∉ xs.map (textB · q) := fun hm => by
  obtain ⟨z, _, e⟩ := List.mem_map.1 hm
  exact textQ_not62 z hq e
theorem exWords_inj {xs ys xs' ys' : List Int} {q : Int} (hq : inQ q = true) (h : exWords xs ys q = exWords xs' ys' q) : xs = xs' ∧ ys = ys' := by
  obtain ⟨e1, e2⟩ := cut_sep ([62] : List UInt8) (no62 xs hq) (no62 xs' hq) h
  exact ⟨textsQ_inj hq e1, textsQ_inj hq e2⟩
/-- every text has words -/
theorem words_exist : ∀ l : List UInt8, ∃ x ws, (∀ w ∈ x :: ws, (32 : UInt8) ∉ w) ∧ l = x ++ Lib.joinTail [32] ws ∧ ws.length ≤ l.length
  | [] => ⟨[], [], by simp, by simp [tail_nil], by simp⟩
  | b :: l => by
    obtain ⟨x, ws, h1, h2, h3⟩ := words_exist l
    by_cases hb : b = 32
    · subst hb
      refine ⟨[], x :: ws, fun w hw => ?_, by rw [tail_cons, ← h2]; rfl, by simp; omega⟩
      rcases List.mem_cons.1 hw with rfl | hw
      · simp
      · exact h1 w hw
    · refine ⟨b :: x, ws, fun w hw => ?_, by rw [h2]; rfl, by simp; omega⟩
      rcases List.mem_cons.1 hw with rfl | hw
      · have := h1 x List.mem_cons_self
        simp only [List.mem_cons, not_or]
        exact ⟨fun e => hb e.symm, this⟩
      · exact h1 w (List.mem_cons_of_mem _ hw)
theorem first_split : ∀ {W : List (List UInt8)} {s : List UInt8} {k : Nat}, k < W.length → W[k]?.getD [] = s → (∀ j, j < k → W[j]?.getD [] ≠ s) → ∃ A B, W = A ++ s :: B ∧ A.length = k ∧ s ∉ A := by
  intro W s k hk hs hn
  refine ⟨W.take k, W.drop (k + 1), ?_, by rw [List.length_take]; omega, fun hm => ?_⟩
  · have e : s = W[k] := by rw [← hs, List.getElem?_eq_getElem hk]; rfl
    rw [e, List.getElem_cons_drop, List.take_append_drop]
  · obtain ⟨j, hj, e⟩ := List.mem_iff_getElem.1 hm
    rw [List.length_take] at hj
    apply hn j (by omega)
    rw [List.getElem_take] at e
    rw [List.getElem?_eq_getElem (by omega), ← e]
    rfl
theorem WordsAt.left {w : World} {b off : Nat} {A B : List (List UInt8)} {s : List UInt8} (h : WordsAt w b off (A ++ s :: B)) : WordsAt w b off A := fun j hj => by
  have := h j (by rw [List.length_append]; omega)
  rwa [List.getElem?_append_left hj] at this
theorem WordsAt.right {w : World} {b off : Nat} {A B : List (List UInt8)} {s : List UInt8} (h : WordsAt w b off (A ++ s :: B)) : WordsAt w b (off + (A.length + 1)) B := fun j hj => by
  have := h (A.length + 1 + j) (by rw [List.length_append, List.length_cons]; omega)
  rw [List.getElem?_append_right (by omega), show A.length + 1 + j - A.length = j + 1 by omega, List.getElem?_cons_succ] at this
  rw [show off + (A.length + 1) + j = off + (A.length + 1 + j) by omega]
  exact this
def PExIs (s : ByteArray) (q : Int) (xs ys : List Int) (ok : Bool) : Prop :=
  (rng xs ∧ rng ys) ∧ ((ok = true ∧ okQ xs ys q = true ∧ (⟨(textX xs ys q).toArray⟩ : ByteArray) = s) ∨ (ok = false ∧ xs = [] ∧ ys = [] ∧ ∀ xs' ys', rng xs' → rng ys' → okQ xs' ys' q = true → (⟨(textX xs' ys' q).toArray⟩ : ByteArray) ≠ s))
theorem okQ_parts {xs ys : List Int} {q : Int} (h : okQ xs ys q = true) : inQ q = true ∧ 0 < xs.length ∧ 0 < ys.length := by
  unfold okQ okT at h
  simpa using h
theorem bytes_inj2 {a b : List UInt8} (h : (⟨a.toArray⟩ : ByteArray) = ⟨b.toArray⟩) : a = b := by simpa using h
theorem rng_nil : rng [] := fun z h => by simp at h
theorem no_first {x : List UInt8} {ws : List (List UInt8)} (hn : ∀ w ∈ x :: ws, (32 : UInt8) ∉ w) (q : Int) (h : ∀ A B : List (List UInt8), ([62] : List UInt8) ∉ A → A ≠ [] → B ≠ [] → x :: ws ≠ A ++ [62] :: B) : PExIs ⟨(x ++ Lib.joinTail [32] ws).toArray⟩ q [] [] false := by
  refine ⟨⟨rng_nil, rng_nil⟩, .inr ⟨rfl, rfl, rfl, fun xs ys _ _ hok e => ?_⟩⟩
  obtain ⟨h1, h2, h3⟩ := okQ_parts hok
  have hw := words_of_text h1 hn (bytes_inj2 e)
  refine h _ _ (no62 xs h1) ?_ ?_ hw.symm
  · intro e; have := congrArg List.length e; rw [List.length_map, List.length_nil] at this; omega
  · intro e; have := congrArg List.length e; rw [List.length_map, List.length_nil] at this; omega
theorem no_left {x : List UInt8} {ws A B : List (List UInt8)} (hn : ∀ w ∈ x :: ws, (32 : UInt8) ∉ w) (he : x :: ws = A ++ [62] :: B) (hA : ([62] : List UInt8) ∉ A) {q z : Int} {j : Nat} (hj : j < A.length) (hp : ParseIs ⟨(A[j]?.getD []).toArray⟩ q z false) : PExIs ⟨(x ++ Lib.joinTail [32] ws).toArray⟩ q [] [] false := by
  refine ⟨⟨rng_nil, rng_nil⟩, .inr ⟨rfl, rfl, rfl, fun xs ys hx hy hok e => ?_⟩⟩
  obtain ⟨h1, h2, h3⟩ := okQ_parts hok
  have hw := words_of_text h1 hn (bytes_inj2 e)
  rw [he] at hw
  obtain ⟨e1, e2⟩ := cut_sep ([62] : List UInt8) (no62 xs h1) hA hw
  rcases hp with ⟨h, _⟩ | ⟨_, _, hp⟩
  · exact Bool.noConfusion h
  · rw [← e1, List.length_map] at hj
    have hm := hx (xs[j]) (List.getElem_mem _)
    refine hp (xs[j]) hm.1 hm.2 h1 ?_
    rw [← e1, List.getElem?_map, List.getElem?_eq_getElem hj]
    rfl
theorem no_right {x : List UInt8} {ws A B : List (List UInt8)} (hn : ∀ w ∈ x :: ws, (32 : UInt8) ∉ w) (he : x :: ws = A ++ [62] :: B) (hA : ([62] : List UInt8) ∉ A) {q z : Int} {j : Nat} (hj : j < B.length) (hp : ParseIs ⟨(B[j]?.getD []).toArray⟩ q z false) : PExIs ⟨(x ++ Lib.joinTail [32] ws).toArray⟩ q [] [] false := by
  refine ⟨⟨rng_nil, rng_nil⟩, .inr ⟨rfl, rfl, rfl, fun xs ys hx hy hok e => ?_⟩⟩
  obtain ⟨h1, h2, h3⟩ := okQ_parts hok
  have hw := words_of_text h1 hn (bytes_inj2 e)
  rw [he] at hw
  obtain ⟨e1, e2⟩ := cut_sep ([62] : List UInt8) (no62 xs h1) hA hw
  rcases hp with ⟨h, _⟩ | ⟨_, _, hp⟩
  · exact Bool.noConfusion h
  · rw [← e2, List.length_map] at hj
    have hm := hy (ys[j]) (List.getElem_mem _)
    refine hp (ys[j]) hm.1 hm.2 h1 ?_
    rw [← e2, List.getElem?_map, List.getElem?_eq_getElem hj]
    rfl
theorem read_list {A : List (List UInt8)} {xs : List Int} {q : Int} (hl : xs.length = A.length) (h : ∀ j, j < A.length → ParseIs ⟨(A[j]?.getD []).toArray⟩ q (xs[j]?.getD 0) true) : rng xs ∧ A = xs.map (textB · q) ∧ (0 < A.length → inQ q = true) := by
  have key : ∀ j, j < A.length → inQ q = true ∧ (-9223372036854775808 ≤ xs[j]?.getD 0 ∧ xs[j]?.getD 0 ≤ 9223372036854775807) ∧ textB (xs[j]?.getD 0) q = A[j]?.getD [] := fun j hj => by
    rcases h j hj with ⟨_, h1, h2, h3⟩ | ⟨h0, _⟩
    · exact ⟨h1, h2, bytes_inj2 h3⟩
    · exact Bool.noConfusion h0
  refine ⟨fun z hz => ?_, ?_, fun h0 => (key 0 h0).1⟩
  · obtain ⟨j, hj, rfl⟩ := List.mem_iff_getElem.1 hz
    have := (key j (by omega)).2.1
    rwa [List.getElem?_eq_getElem hj] at this
  · apply List.ext_getElem (by rw [List.length_map]; omega)
    intro j h1 h2
    have := (key j h1).2.2
    rw [List.getElem?_eq_getElem h1, List.getElem?_eq_getElem (by omega)] at this
    rw [List.getElem_map]
    exact this.symm
theorem good_parse {x : List UInt8} {ws A B : List (List UInt8)} (he : x :: ws = A ++ [62] :: B) (hA : 0 < A.length) (hB : 0 < B.length) {xs ys : List Int} {q : Int} (hlx : xs.length = A.length) (hly : ys.length = B.length) (hx : ∀ j, j < A.length → ParseIs ⟨(A[j]?.getD []).toArray⟩ q (xs[j]?.getD 0) true) (hy : ∀ j, j < B.length → ParseIs ⟨(B[j]?.getD []).toArray⟩ q (ys[j]?.getD 0) true) : PExIs ⟨(x ++ Lib.joinTail [32] ws).toArray⟩ q xs ys true := by
  obtain ⟨r1, e1, q1⟩ := read_list hlx hx
  obtain ⟨r2, e2, _⟩ := read_list hly hy
  refine ⟨⟨r1, r2⟩, .inl ⟨rfl, ?_, ?_⟩⟩
  · have := q1 hA
    unfold okQ okT
    simp only [this, Bool.true_and, Bool.and_eq_true, decide_eq_true_eq]
    omega
  · rw [textX_words]
    unfold exWords
    rw [← e1, ← e2, ← he, Lib.join_cons]
end Go.Proofs.YtcnabebcckbfkaaDoor
