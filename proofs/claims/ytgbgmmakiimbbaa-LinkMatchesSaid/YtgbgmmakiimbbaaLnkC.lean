/- Layer 18: the ring in memory; tags compared; Peek. -/
import Derived.Test.YtgbgmmakiimbbaaLnkB
import Derived.Laws.StructEq
namespace Go.Proofs.Ytgbgmmakiimbbaa
open Go.RowKit
set_option linter.unusedVariables false
def tagXs (a b c d e_ : Int) : List Int := [a, b, c, d, e_]
theorem equalIn_tag (a b c d e_ p q r s t : Int) (w : World) : (Op.equalIn 10000 31 (.agg #[.int .i64 a, .int .i64 b, .int .i64 c, .int .i64 d, .int .i64 e_]) (.agg #[.int .i64 p, .int .i64 q, .int .i64 r, .int .i64 s, .int .i64 t])).run Try.prog w = .ok (tagXs a b c d e_ == tagXs p q r s t) w := by
  rw [run_equalIn_agg w 9999 31 _ _ (by kernel_rfl) (by kernel_rfl)]
  have hpart : ∀ (xs : Array Value) (i : Nat) (x : Value), xs[i]? = some x → (part 3 xs i).run Try.prog w = .ok x w := by
    intro xs i x h
    simp [part, isAgg, run_underlying Try.underlying3, h]
  have hE : ∀ x y : Int, (Op.equalIn 9999 3 (.int .i64 x) (.int .i64 y)).run Try.prog w = .ok (x == y) w := fun x y => run_equalIn_int w 9998 3 .i64 .i64 x y Try.underlying3
  simp only [Program.fieldsOf, Try.underlying31]
  have g := fun (i : Nat) (x : Value) => hpart #[.int .i64 a, .int .i64 b, .int .i64 c, .int .i64 d, .int .i64 e_] i x
  have k := fun (i : Nat) (x : Value) => hpart #[.int .i64 p, .int .i64 q, .int .i64 r, .int .i64 s, .int .i64 t] i x
  have g0 := g 0 (.int .i64 a) rfl
  have g1 := g 1 (.int .i64 b) rfl
  have g2 := g 2 (.int .i64 c) rfl
  have g3 := g 3 (.int .i64 d) rfl
  have g4 := g 4 (.int .i64 e_) rfl
  have k0 := k 0 (.int .i64 p) rfl
  have k1 := k 1 (.int .i64 q) rfl
  have k2 := k 2 (.int .i64 r) rfl
  have k3 := k 3 (.int .i64 s) rfl
  have k4 := k 4 (.int .i64 t) rfl
  clear hpart g k
  simp only [Op.eqFields, ne_eq, String.reduceEq, not_false_eq_true, if_true, Sem.run_bind, Sem.run_ite, g0, g1, g2, g3, g4, k0, k1, k2, k3, k4, hE, Result.andThen_ok, Sem.run_pure]
  clear g0 g1 g2 g3 g4 k0 k1 k2 k3 k4 hE
  unfold tagXs
  by_cases h0 : a = p
  · by_cases h1 : b = q
    · by_cases h2 : c = r
      · by_cases h3 : d = s
        · by_cases h4 : e_ = t
          · simp [h0, h1, h2, h3, h4]
          · simp [h0, h1, h2, h3, h4]
        · simp [h0, h1, h2, h3]
      · simp [h0, h1, h2]
    · simp [h0, h1]
  · simp [h0]
theorem eql_tag (a b c d e_ p q r s t : Int) (w : World) : (binOp .eql 31 (.agg #[.int .i64 a, .int .i64 b, .int .i64 c, .int .i64 d, .int .i64 e_]) (.agg #[.int .i64 p, .int .i64 q, .int .i64 r, .int .i64 s, .int .i64 t])).run Try.prog w = .ok (.bool (tagXs a b c d e_ == tagXs p q r s t)) w := by
  rw [run_eql_struct, equalIn_tag]
  rfl
theorem neq_tag (a b c d e_ p q r s t : Int) (w : World) : (binOp .neq 31 (.agg #[.int .i64 a, .int .i64 b, .int .i64 c, .int .i64 d, .int .i64 e_]) (.agg #[.int .i64 p, .int .i64 q, .int .i64 r, .int .i64 s, .int .i64 t])).run Try.prog w = .ok (.bool (!(tagXs a b c d e_ == tagXs p q r s t))) w := by
  rw [run_neq_struct, equalIn_tag]
  rfl
def Tg.xs (t : Tg) : List Int := tagXs t.a t.b t.c t.d t.e
theorem Tg.xs_inj {t u : Tg} : t.xs = u.xs ↔ t = u := by
  obtain ⟨a, b, c, d, e⟩ := t
  obtain ⟨p, q, r, s, x⟩ := u
  simp [Tg.xs, tagXs]
def tagB (t u : Tg) : Bool := t.xs == u.xs
theorem tagB_true {t u : Tg} : tagB t u = true ↔ t = u := by
  unfold tagB
  rw [beq_iff_eq, Tg.xs_inj]
/-- a message: its tag and its values -/
structure Ms where
  (t : Tg) (zs : List Int)
/-- six cells of a list are replaced -/
def set6 (cs : List Value) (p : Nat) (y0 y1 y2 y3 y4 y5 : Value) : List Value := (((((cs.set (p * 6) y0).set (p * 6 + 1) y1).set (p * 6 + 2) y2).set (p * 6 + 3) y3).set (p * 6 + 4) y4).set (p * 6 + 5) y5
theorem set6_length (cs : List Value) (p : Nat) (y0 y1 y2 y3 y4 y5 : Value) : (set6 cs p y0 y1 y2 y3 y4 y5).length = cs.length := by simp [set6]
theorem set6_other (cs : List Value) (p q k : Nat) (hk : k < 6) (hne : q ≠ p) (y0 y1 y2 y3 y4 y5 : Value) : (set6 cs p y0 y1 y2 y3 y4 y5)[q * 6 + k]? = cs[q * 6 + k]? := by
  unfold set6
  rw [List.getElem?_set_ne (by omega), List.getElem?_set_ne (by omega), List.getElem?_set_ne (by omega), List.getElem?_set_ne (by omega), List.getElem?_set_ne (by omega), List.getElem?_set_ne (by omega)]
theorem set6_same (cs : List Value) (p : Nat) (h : p * 6 + 6 ≤ cs.length) (y0 y1 y2 y3 y4 y5 : Value) :
    (set6 cs p y0 y1 y2 y3 y4 y5)[p * 6]? = some y0 ∧ (set6 cs p y0 y1 y2 y3 y4 y5)[p * 6 + 1]? = some y1 ∧ (set6 cs p y0 y1 y2 y3 y4 y5)[p * 6 + 2]? = some y2 ∧ (set6 cs p y0 y1 y2 y3 y4 y5)[p * 6 + 3]? = some y3 ∧ (set6 cs p y0 y1 y2 y3 y4 y5)[p * 6 + 4]? = some y4 ∧ (set6 cs p y0 y1 y2 y3 y4 y5)[p * 6 + 5]? = some y5 := by
  unfold set6
  refine ⟨?_, ?_, ?_, ?_, ?_, ?_⟩
  · rw [List.getElem?_set_ne (by omega), List.getElem?_set_ne (by omega), List.getElem?_set_ne (by omega), List.getElem?_set_ne (by omega), List.getElem?_set_ne (by omega), List.getElem?_set_self (by omega)]
  · rw [List.getElem?_set_ne (by omega), List.getElem?_set_ne (by omega), List.getElem?_set_ne (by omega), List.getElem?_set_ne (by omega), List.getElem?_set_self (by simp; omega)]
  · rw [List.getElem?_set_ne (by omega), List.getElem?_set_ne (by omega), List.getElem?_set_ne (by omega), List.getElem?_set_self (by simp; omega)]
  · rw [List.getElem?_set_ne (by omega), List.getElem?_set_ne (by omega), List.getElem?_set_self (by simp; omega)]
  · rw [List.getElem?_set_ne (by omega), List.getElem?_set_self (by simp; omega)]
  · rw [List.getElem?_set_self (by simp; omega)]
theorem put6 {w : World} {base g n cap : Nat} {e : TypeId} {cs : List Value} (h : w.ownsRow base e 6 (.slice (some ⟨g, 0, none⟩) n cap) n cs) (p : Nat) (y0 y1 y2 y3 y4 y5 : Value) :
    World.ownsRow ((((((w.setCell ⟨g, p * 6, none⟩ y0).setCell ⟨g, p * 6 + 1, none⟩ y1).setCell ⟨g, p * 6 + 2, none⟩ y2).setCell ⟨g, p * 6 + 3, none⟩ y3).setCell ⟨g, p * 6 + 4, none⟩ y4).setCell ⟨g, p * 6 + 5, none⟩ y5) base e 6 (.slice (some ⟨g, 0, none⟩) n cap) n (set6 cs p y0 y1 y2 y3 y4 y5) ∧
    w.grownBy ((((((w.setCell ⟨g, p * 6, none⟩ y0).setCell ⟨g, p * 6 + 1, none⟩ y1).setCell ⟨g, p * 6 + 2, none⟩ y2).setCell ⟨g, p * 6 + 3, none⟩ y3).setCell ⟨g, p * 6 + 4, none⟩ y4).setCell ⟨g, p * 6 + 5, none⟩ y5) (some g) := by
  have s0 := h.stored (p * 6) y0
  have s1 := s0.1.stored (p * 6 + 1) y1
  have s2 := s1.1.stored (p * 6 + 2) y2
  have s3 := s2.1.stored (p * 6 + 3) y3
  have s4 := s3.1.stored (p * 6 + 4) y4
  have s5 := s4.1.stored (p * 6 + 5) y5
  exact ⟨s5.1, grown_trans (grown_trans (grown_trans (grown_trans (grown_trans s0.2 s1.2) s2.2) s3.2) s4.2) s5.2⟩
/-- a message lies at a place of a list of cells; its values are the link's own -/
def MsgAt (w : World) (base : Nat) (cs : List Value) (p : Nat) (m : Ms) : Prop :=
  ∃ v, (cs[p * 6]? = some (.int .i64 m.t.a) ∧ cs[p * 6 + 1]? = some (.int .i64 m.t.b) ∧ cs[p * 6 + 2]? = some (.int .i64 m.t.c) ∧ cs[p * 6 + 3]? = some (.int .i64 m.t.d) ∧ cs[p * 6 + 4]? = some (.int .i64 m.t.e) ∧ cs[p * 6 + 5]? = some v) ∧
    w.ownsRow base 2 1 v m.zs.length (m.zs.map (Value.int .i64))
theorem MsgAt.later {w w' : World} {base p : Nat} {cs : List Value} {m : Ms} (h : MsgAt w base cs p m) (hb : Below w.heap.size w w') : MsgAt w' base cs p m := by
  obtain ⟨v, hc, ho⟩ := h
  exact ⟨v, hc, own_below ho hb⟩
/-- a link in memory: what it holds, how many were received, how many there were at most -/
def LinkAt (b B cap : Nat) (q : List Ms) (rcv hi : Nat) (w : World) : Prop :=
  b < B ∧ B ≤ w.heap.size ∧ ∃ first R rv cs, LinkB w b cap rv first (rcv + q.length) rcv hi ∧ w.ownsRow (b + 1) 34 6 rv R cs ∧ (q.length ≤ R ∧ R ≤ cap ∧ (first < R ∨ first = 0)) ∧ ∀ i m, q[i]? = some m → MsgAt w B cs ((first + i) % R) m
/-- the numbers of a link are small -/
def LinkOk (cap : Nat) (q : List Ms) (rcv hi : Nat) : Prop := cap ≤ 1048576 ∧ rcv ≤ 1099511627776 ∧ hi ≤ 1048576 ∧ ∀ m ∈ q, m.zs.length * 8 ≤ 140737488351232
theorem LinkAt.later {b B cap rcv hi : Nat} {q : List Ms} {w w' : World} (h : LinkAt b B cap q rcv hi w) (hb : Below w.heap.size w w') : LinkAt b B cap q rcv hi w' := by
  obtain ⟨hbB, hBw, first, R, rv, cs, h1, h2, h3, h4⟩ := h
  exact ⟨hbB, Nat.le_trans hBw hb.size, first, R, rv, cs, Six.later h1 hb, own_below h2 hb, h3, fun i m hm => (h4 i m hm).later hb⟩
theorem LinkAt.lt {b B cap rcv hi : Nat} {q : List Ms} {w : World} (h : LinkAt b B cap q rcv hi w) : b < w.heap.size := by
  obtain ⟨hbB, hBw, first, R, rv, cs, h1, _⟩ := h
  exact Six.lt h1
theorem LinkAt.le {b B cap rcv hi : Nat} {q : List Ms} {w : World} (h : LinkAt b B cap q rcv hi w) : q.length ≤ cap := by
  obtain ⟨hbB, hBw, first, R, rv, cs, h1, h2, h3, _⟩ := h
  omega
theorem LinkAt.new {b B cap : Nat} {w : World} (hbB : b < B) (hBw : B ≤ w.heap.size) (h : LinkB w b cap (.slice none 0 0) 0 0 0 0) : LinkAt b B cap [] 0 0 w :=
  ⟨hbB, hBw, 0, 0, _, [], h, World.ownsRow_nil _ _ _ _, ⟨Nat.zero_le _, Nat.zero_le _, .inr rfl⟩, fun i m hm => by simp at hm⟩
theorem linkLen_any {B : Nat} (b cap rcv hi : Nat) (q : List Ms) (w : World) (h : LinkAt b B cap q rcv hi w) (hk : LinkOk cap q rcv hi) :
    Calls Try.prog 21 #[.pointer (some ⟨b, 0, none⟩)] w fun e w' => e = .returned (.int .i64 q.length) ∧ w' = w.drew := by
  have := h.le
  obtain ⟨hbB, hBw, first, R, rv, cs, h1, h2, h3, _⟩ := h
  obtain ⟨k1, k2, k3, _⟩ := hk
  exact len_any b cap rv first q.length rcv hi (by omega) w h1
theorem type_apart {w : World} {b1 b2 n1 n2 s1 s2 : Nat} {e1 e2 : TypeId} {v1 v2 : Value} {xs1 xs2 : List Value} (h1 : w.ownsRow b1 e1 s1 v1 n1 xs1) (h2 : w.ownsRow b2 e2 s2 v2 n2 xs2) (he : e1 ≠ e2) : v1.ownBlock = none ∨ v1.ownBlock ≠ v2.ownBlock := by
  rcases h1.2 with ⟨rfl, _⟩ | ⟨g1, c1, cur1, rfl, _, hg1, _⟩
  · exact .inl rfl
  · rcases h2.2 with ⟨rfl, _⟩ | ⟨g2, c2, cur2, rfl, _, hg2, _⟩
    · exact .inr (by simp [Value.ownBlock])
    · refine .inr fun e => ?_
      simp [Value.ownBlock] at e
      subst e
      rw [hg1] at hg2
      simp at hg2
      exact he hg2.2
theorem MsgAt.moved {W W' : World} {base base' g n cap p p0 : Nat} {cs : List Value} {m : Ms} (h : MsgAt W base cs p m) (hne : p ≠ p0) (hrow : W.ownsRow base' 34 6 (.slice (some ⟨g, 0, none⟩) n cap) n cs) (hg : W.grownBy W' (some g)) (y0 y1 y2 y3 y4 y5 : Value) :
    MsgAt W' base (set6 cs p0 y0 y1 y2 y3 y4 y5) p m := by
  obtain ⟨v, ⟨m0, m1, m2, m3, m4, m5⟩, ho⟩ := h
  have s0 := set6_other cs p0 p 0 (by omega) hne y0 y1 y2 y3 y4 y5
  rw [Nat.add_zero] at s0
  exact ⟨v, ⟨s0.trans m0, (set6_other cs p0 p 1 (by omega) hne _ _ _ _ _ _).trans m1, (set6_other cs p0 p 2 (by omega) hne _ _ _ _ _ _).trans m2, (set6_other cs p0 p 3 (by omega) hne _ _ _ _ _ _).trans m3, (set6_other cs p0 p 4 (by omega) hne _ _ _ _ _ _).trans m4, (set6_other cs p0 p 5 (by omega) hne _ _ _ _ _ _).trans m5⟩,
    ho.kept hg (type_apart ho hrow (by decide))⟩
theorem mod_ne {first i R : Nat} (hf : first < R) (hi : i + 1 < R) : (first + (i + 1)) % R ≠ first := by
  by_cases h : first + (i + 1) < R
  · rw [Nat.mod_eq_of_lt h]; omega
  · rw [Nat.mod_eq_sub_mod (by omega), Nat.mod_eq_of_lt (by omega)]; omega
theorem mod_step (first i R : Nat) : ((first + 1) % R + i) % R = (first + (i + 1)) % R := by
  rw [Nat.mod_add_mod, show first + 1 + i = first + (i + 1) by omega]
theorem MsgAt.set {W : World} {base b o p : Nat} {cs : List Value} {m : Ms} (h : MsgAt W base cs p m) (hb : b < base) (x : Value) : MsgAt (W.setCell ⟨b, o, none⟩ x) base cs p m := by
  obtain ⟨v, hc, ho⟩ := h
  exact ⟨v, hc, row_set ho hb x⟩
theorem Six.not_row {w : World} {b : Nat} {t : TypeId} {x0 x1 x2 x3 x4 x5 : Value} (h : Six w b t x0 x1 x2 x3 x4 x5) {base size n : Nat} {e : TypeId} {v : Value} {xs : List Value} (hr : w.ownsRow base e size v n xs) (hne : t ≠ e) : v.ownBlock = none ∨ v.ownBlock ≠ some b := by
  rcases hr.2 with ⟨rfl, _⟩ | ⟨g, c, cur, rfl, _, hg, _⟩
  · exact .inl rfl
  · refine .inr fun e' => ?_
    obtain rfl : g = b := Option.some.inj e'
    have e1 : w.heap[g]? = some (.cells #[x0, x1, x2, x3, x4, x5] t (0, 0)) := h
    rw [hg] at e1
    simp at e1
    exact hne e1.2.symm
theorem MsgAt.other {W W' : World} {base B p : Nat} {cs : List Value} {m : Ms} {x0 x1 x2 x3 x4 x5 : Value} (h : MsgAt W base cs p m) (hs : Six W B 34 x0 x1 x2 x3 x4 x5) (hg : W.grownBy W' (some B)) : MsgAt W' base cs p m := by
  obtain ⟨v, hc, ho⟩ := h
  exact ⟨v, hc, ho.kept hg (hs.not_row ho (by decide))⟩
theorem grown_six (w : World) (b : Nat) (y0 y1 y2 y3 y4 y5 : Value) : w.grownBy ((((((w.setCell ⟨b, 0, none⟩ y0).setCell ⟨b, 1, none⟩ y1).setCell ⟨b, 2, none⟩ y2).setCell ⟨b, 3, none⟩ y3).setCell ⟨b, 4, none⟩ y4).setCell ⟨b, 5, none⟩ y5) (some b) :=
  grown_trans (grown_trans (grown_trans (grown_trans (grown_trans (grown_set _ _ _ _) (grown_set _ _ _ _)) (grown_set _ _ _ _)) (grown_set _ _ _ _)) (grown_set _ _ _ _)) (grown_set _ _ _ _)
theorem mod_ne2 {first i n R : Nat} (hi : i < n) (hn : n < R) : (first + i) % R ≠ (first + n) % R := by
  intro h
  have h2 := Nat.sub_mod_eq_zero_of_mod_eq h.symm
  rw [show first + n - (first + i) = n - i by omega, Nat.mod_eq_of_lt (by omega)] at h2
  omega
end Go.Proofs.Ytgbgmmakiimbbaa
