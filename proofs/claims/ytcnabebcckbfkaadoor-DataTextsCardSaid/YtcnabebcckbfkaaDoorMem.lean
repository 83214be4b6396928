/- What it means that a slice value holds a list, and how this survives calls that write only to memory of their own. -/
import Derived.WalkKit
import Derived.Lib.Hide
import Derived.OpenShut
import Derived.Deep.QuietTactic
import Derived.BigQuiet
namespace Go.Proofs.YtcnabebcckbfkaaDoor
open Go.RowKit Go.ChangeShapes Go.WideShapes

theorem ret_i {k : IntKind} {a b : Int} (h : a = b) : Ending.returned (.int k a) = .returned (.int k b) := by rw [h]
theorem ret_b {a b : Bool} (h : a = b) : Ending.returned (.bool a) = .returned (.bool b) := by rw [h]
theorem below_drewN {B : Nat} {a w : World} (h : Below B a w) (n : Nat) : Below B a (w.drewN n) := ⟨h.os, h.tape, h.output, h.size, h.block⟩
theorem below_step {B : Nat} {a b c : World} (h : Below B a b) (k : Below b.heap.size b c) (hB : B ≤ a.heap.size := by exact Nat.le_refl _) : Below B a c := h.trans (k.mono (Nat.le_trans hB h.size))
theorem below_alloc {a b : World} {o : Obj} (h : Below a.heap.size a b) : Below a.heap.size a (b.alloc o) := h.alloc h.size o
theorem below_cells {W w1 : World} {B : Nat} (hb : Below B W w1) : (∀ b o, b < B → w1.cell? ⟨b, o, none⟩ = W.cell? ⟨b, o, none⟩) ∧ (∀ b o, b < B → w1.frozen? ⟨b, o, none⟩ = W.frozen? ⟨b, o, none⟩) :=
  ⟨fun b o h => hb.cell (p := ⟨b, o, none⟩) h, fun b o h => hb.frozen (p := ⟨b, o, none⟩) h⟩

/-- the slice value v has n elements of so many cells, in a block below n₀; their cells are xs -/
def SliceAt (n₀ : Nat) (w : World) (size : Nat) (v : Value) (n : Nat) (xs : List Value) : Prop :=
  xs.length = n * size ∧ ((v = .slice none 0 0 ∧ n = 0) ∨ ∃ b off cap, v = .slice (some ⟨b, off, none⟩) n cap ∧ n ≤ cap ∧ b < n₀ ∧ ∀ j u, xs[j]? = some u → w.cell? ⟨b, off + j, none⟩ = some u)
theorem SliceAt.below {n₀ size n : Nat} {A B : World} {v : Value} {xs : List Value} (h : Below n₀ A B) : SliceAt n₀ A size v n xs → SliceAt n₀ B size v n xs
  | ⟨hl, .inl z⟩ => ⟨hl, .inl z⟩
  | ⟨hl, .inr ⟨b, off, cap, e, hn, hb, hc⟩⟩ => ⟨hl, .inr ⟨b, off, cap, e, hn, hb, fun j u hj => (h.cell (p := ⟨b, off + j, none⟩) hb).trans (hc j u hj)⟩⟩
theorem SliceAt.grow {n₀ n₁ size n : Nat} {w : World} {v : Value} {xs : List Value} (h : n₀ ≤ n₁) : SliceAt n₀ w size v n xs → SliceAt n₁ w size v n xs
  | ⟨hl, .inl z⟩ => ⟨hl, .inl z⟩
  | ⟨hl, .inr ⟨b, off, cap, e, hn, hb, hc⟩⟩ => ⟨hl, .inr ⟨b, off, cap, e, hn, Nat.lt_of_lt_of_le hb h, hc⟩⟩
theorem SliceAt.drewN {n₀ size n m : Nat} {w : World} {v : Value} {xs : List Value} (h : SliceAt n₀ w size v n xs) : SliceAt n₀ (w.drewN m) size v n xs := h.below (below_drewN (Below.refl _ _) m)
theorem SliceAt.of_owns {w : World} {base size n : Nat} {e : TypeId} {v : Value} {xs : List Value} (h : w.ownsRow base e size v n xs) : SliceAt w.heap.size w size v n xs := by
  obtain ⟨hl, ⟨rfl, rfl⟩ | ⟨g, cap, cur, rfl, hg, hh, hn, hc, hs, ht⟩⟩ := h
  · exact ⟨hl, .inl ⟨rfl, rfl⟩⟩
  · refine ⟨hl, .inr ⟨g, 0, cap, rfl, hn, lt_of_block hh, ?_⟩⟩
    intro j u hj
    have := World.ownsRow.cells (w := w) (base := base) (e := e) (size := size) (v := .slice (some ⟨g, 0, none⟩) n cap) (n := n) (xs := xs) ⟨hl, .inr ⟨g, cap, cur, rfl, hg, hh, hn, hc, hs, ht⟩⟩ rfl j u hj
    rw [Nat.zero_add]
    rw [Go.WideShapes.add_plain, Nat.zero_add] at this
    exact this
theorem SliceAt.take {n₀ size n k cap : Nat} {p : Option Addr} {w : World} {xs : List Value} (hk : k ≤ n) (h : SliceAt n₀ w size (.slice p n cap) n xs) : SliceAt n₀ w size (.slice p k cap) k (xs.take (k * size)) := by
  obtain ⟨hl, h⟩ := h
  refine ⟨by rw [List.length_take, hl]; exact Nat.min_eq_left (Nat.mul_le_mul_right _ hk), ?_⟩
  rcases h with ⟨e, h⟩ | ⟨b, off, cap', e, hn, hb, hc⟩
  · cases e; left; exact ⟨by rw [Nat.le_zero.1 hk], Nat.le_zero.1 hk⟩
  · cases e
    refine .inr ⟨b, off, cap, rfl, by omega, hb, fun j u hj => hc j u ?_⟩
    rw [List.getElem?_take] at hj
    split at hj
    · exact hj
    · cases hj
theorem SliceAt.drop {n₀ size n k cap b off : Nat} {w : World} {xs : List Value} (hk : k ≤ n) (h : SliceAt n₀ w size (.slice (some ⟨b, off, none⟩) n cap) n xs) : SliceAt n₀ w size (.slice (some ⟨b, off + k * size, none⟩) (n - k) (cap - k)) (n - k) (xs.drop (k * size)) := by
  obtain ⟨hl, h⟩ := h
  refine ⟨by rw [List.length_drop, hl, Nat.sub_mul], ?_⟩
  rcases h with ⟨e, h⟩ | ⟨b', off', cap', e, hn, hb, hc⟩
  · cases e
  · cases e
    refine .inr ⟨b, off + k * size, _, rfl, by omega, hb, fun j u hj => ?_⟩
    rw [List.getElem?_drop] at hj
    rw [Nat.add_assoc]
    exact hc _ _ hj

/-- the value of a slice expression: a name that the walk does not open -/
def cutv (a : Option Addr) (l h m s : Nat) : Value := sliced a l h m s
theorem run_cut_h {P : Program} {T s : Nat} (hT : P.underlying T = some (.slice (P.elem T))) (hs : ∀ w, (sizeOf (P.elem T)).run P w = .ok s w) (a : Option Addr) (len cap : Nat) (k : IntKind) (h : Int) (h0 : 0 ≤ h) (h1 : h ≤ cap) (w : World) :
    (Instr.slice T (.slice a len cap) none (some (.int k h)) none).run P w = .ok (cutv a 0 h.toNat cap s) w := by
  rw [run_slice_h w T a len cap hT k h h0 h1, hs]; rfl
theorem run_cut_l {P : Program} {T s : Nat} (hT : P.underlying T = some (.slice (P.elem T))) (hs : ∀ w, (sizeOf (P.elem T)).run P w = .ok s w) (a : Option Addr) (len cap : Nat) (k : IntKind) (l : Int) (h0 : 0 ≤ l) (h1 : l ≤ len) (w : World) :
    (Instr.slice T (.slice a len cap) (some (.int k l)) none none).run P w = .ok (cutv a l.toNat len cap s) w := by
  rw [run_slice_l w T a len cap hT k l h0 h1, hs]; rfl
theorem run_cut_lh {P : Program} {T s : Nat} (hT : P.underlying T = some (.slice (P.elem T))) (hs : ∀ w, (sizeOf (P.elem T)).run P w = .ok s w) (a : Option Addr) (len cap : Nat) (k k' : IntKind) (l h : Int) (h0 : 0 ≤ l) (h1 : l ≤ h) (h2 : h ≤ cap) (w : World) :
    (Instr.slice T (.slice a len cap) (some (.int k l)) (some (.int k' h)) none).run P w = .ok (cutv a l.toNat h.toNat cap s) w := by
  rw [run_slice_lh w T a len cap hT k k' l h h0 h1 h2, hs]; rfl
theorem SliceAt.cut {n₀ size n l h cap : Nat} {a : Option Addr} {w : World} {xs : List Value} (hl : l ≤ h) (hh : h ≤ n) (hx : SliceAt n₀ w size (.slice a n cap) n xs) : SliceAt n₀ w size (cutv a l h cap size) (h - l) ((xs.take (h * size)).drop (l * size)) := by
  obtain ⟨hlen, hx⟩ := hx
  refine ⟨by rw [List.length_drop, List.length_take, hlen, Nat.min_eq_left (Nat.mul_le_mul_right _ hh), Nat.sub_mul], ?_⟩
  rcases hx with ⟨e, hn⟩ | ⟨b, off, cap', e, hn, hb, hc⟩
  · cases e
    have : h = 0 := by omega
    have : l = 0 := by omega
    subst_vars
    exact .inl ⟨rfl, rfl⟩
  · cases e
    unfold cutv sliced
    by_cases hm : cap = l
    · rw [if_pos hm]
      refine .inr ⟨b, off, _, rfl, by omega, hb, fun j u hj => ?_⟩
      have hz : (xs.take (h * size)).drop (l * size) = [] := by
        apply List.drop_eq_nil_of_le
        rw [List.length_take]
        have e : h = l := by omega
        subst e
        exact Nat.min_le_left _ _
      rw [hz] at hj
      cases hj
    · rw [if_neg hm]
      refine .inr ⟨b, off + l * size, cap - l, by simp only [Option.map_some, Go.WideShapes.add_plain], by omega, hb, fun j u hj => ?_⟩
      rw [List.getElem?_drop, List.getElem?_take] at hj
      split at hj
      · rw [Nat.add_assoc]; exact hc _ _ hj
      · cases hj

/-- integers of one kind -/
def IntsAt (q : IntKind) (n₀ : Nat) (w : World) (v : Value) (zs : List Int) : Prop := SliceAt n₀ w 1 v zs.length (zs.map (Value.int q))
theorem IntsAt.below {q : IntKind} {n₀ : Nat} {A B : World} {v : Value} {zs : List Int} (h : Below n₀ A B) (k : IntsAt q n₀ A v zs) : IntsAt q n₀ B v zs := SliceAt.below h k
theorem IntsAt.grow {q : IntKind} {n₀ n₁ : Nat} {w : World} {v : Value} {zs : List Int} (h : n₀ ≤ n₁) (k : IntsAt q n₀ w v zs) : IntsAt q n₁ w v zs := SliceAt.grow h k
/-- in a later world, whose old blocks are as they were -/
theorem IntsAt.later {q : IntKind} {A B : World} {v : Value} {zs : List Int} (k : IntsAt q A.heap.size A v zs) (h : Below A.heap.size A B) : IntsAt q B.heap.size B v zs := (k.below h).grow h.size
theorem IntsAt.form {q : IntKind} {n₀ : Nat} {w : World} {v : Value} {zs : List Int} (h : IntsAt q n₀ w v zs) :
    (v = .slice none 0 0 ∧ zs = []) ∨ ∃ b off cap, v = .slice (some ⟨b, off, none⟩) zs.length cap ∧ zs.length ≤ cap ∧ b < n₀ ∧ ∀ j, j < zs.length → w.cell? ⟨b, off + j, none⟩ = some (.int q (zs[j]?.getD 0)) := by
  obtain ⟨hl, ⟨e, h⟩ | ⟨b, off, cap, e, hn, hb, hc⟩⟩ := h
  · exact .inl ⟨e, List.length_eq_zero_iff.1 h⟩
  · exact .inr ⟨b, off, cap, e, hn, hb, fun j hj => hc j _ (by simp [hj])⟩
theorem IntsAt.mk {q : IntKind} {n₀ b off cap : Nat} {w : World} {zs : List Int} (hn : zs.length ≤ cap) (hb : b < n₀) (hc : ∀ j, j < zs.length → w.cell? ⟨b, off + j, none⟩ = some (.int q (zs[j]?.getD 0))) : IntsAt q n₀ w (.slice (some ⟨b, off, none⟩) zs.length cap) zs := by
  refine ⟨by simp, .inr ⟨b, off, cap, rfl, hn, hb, fun j u hj => ?_⟩⟩
  rw [List.getElem?_map] at hj
  have hlt : j < zs.length := by
    apply Nat.lt_of_not_le; intro hge
    rw [List.getElem?_eq_none hge] at hj; cases hj
  rw [List.getElem?_eq_getElem hlt] at hj
  rw [hc j hlt, List.getElem?_eq_getElem hlt]
  simpa using hj
theorem IntsAt.nil {q : IntKind} {n₀ : Nat} {w : World} : IntsAt q n₀ w (.slice none 0 0) [] := ⟨by simp, .inl ⟨rfl, rfl⟩⟩
theorem IntsAt.take {q : IntKind} {n₀ k n cap : Nat} {p : Option Addr} {w : World} {zs : List Int} (hk : k ≤ zs.length) (h : IntsAt q n₀ w (.slice p n cap) zs) : IntsAt q n₀ w (.slice p k cap) (zs.take k) := by
  have hn : n = zs.length := by
    rcases h.form with ⟨e, rfl⟩ | ⟨b, off, cap', e, _⟩ <;> cases e <;> rfl
  subst hn
  have h1 := SliceAt.take hk h
  rw [Nat.mul_one, ← List.map_take] at h1
  unfold IntsAt
  rw [List.length_take, Nat.min_eq_left hk]
  exact h1
theorem IntsAt.drop {q : IntKind} {n₀ k n cap b off : Nat} {w : World} {zs : List Int} (hk : k ≤ zs.length) (h : IntsAt q n₀ w (.slice (some ⟨b, off, none⟩) n cap) zs) : IntsAt q n₀ w (.slice (some ⟨b, off + k, none⟩) (n - k) (cap - k)) (zs.drop k) := by
  have hn : n = zs.length := by
    rcases h.form with ⟨e, rfl⟩ | ⟨b, off, cap', e, _⟩ <;> cases e <;> rfl
  subst hn
  have h1 := SliceAt.drop hk h
  rw [Nat.mul_one, ← List.map_drop] at h1
  unfold IntsAt
  rw [List.length_drop]
  exact h1
theorem IntsAt.of_owns {q : IntKind} {w : World} {base n : Nat} {e : TypeId} {v : Value} {zs : List Int} (hn : n = zs.length) (h : w.ownsRow base e 1 v n (zs.map (Value.int q))) : IntsAt q w.heap.size w v zs := by
  subst hn; exact SliceAt.of_owns h
theorem IntsAt.len {q : IntKind} {n₀ n cap : Nat} {p : Option Addr} {w : World} {zs : List Int} (h : IntsAt q n₀ w (.slice p n cap) zs) : n = zs.length := by
  rcases h.form with ⟨e, rfl⟩ | ⟨b, off, cap', e, _⟩ <;> cases e <;> rfl

theorem SliceAt.fresh {w : World} {cs : Array Value} {e : TypeId} {n size : Nat} {xs : List Value} (hs : xs.length = n * size) (hx : cs.toList = xs) : SliceAt (w.alloc (.cells cs e)).heap.size (w.alloc (.cells cs e)) size (.slice (some ⟨w.heap.size, 0, none⟩) n n) n xs := by
  refine ⟨hs, .inr ⟨w.heap.size, 0, n, rfl, Nat.le_refl _, by simp, fun j u hj => ?_⟩⟩
  subst hx
  have h1 : (w.alloc (.cells cs e)).heap[w.heap.size]? = some (.cells cs e) := (MapKept.heap_alloc w _).1
  rw [Nat.zero_add]
  simp only [World.cell?, h1]
  simpa using hj
theorem IntsAt.fresh {q : IntKind} {w : World} {cs : Array Value} {e : TypeId} {zs : List Int} (hx : cs.toList = zs.map (Value.int q)) : IntsAt q (w.alloc (.cells cs e)).heap.size (w.alloc (.cells cs e)) (.slice (some ⟨w.heap.size, 0, none⟩) zs.length zs.length) zs :=
  SliceAt.fresh (by simp) hx
theorem IntsAt.cut {q : IntKind} {n₀ l h n cap : Nat} {a : Option Addr} {w : World} {zs : List Int} (hl : l ≤ h) (hh : h ≤ zs.length) (hx : IntsAt q n₀ w (.slice a n cap) zs) : IntsAt q n₀ w (cutv a l h cap 1) ((zs.take h).drop l) := by
  have hn := hx.len
  subst hn
  have h1 := SliceAt.cut hl hh hx
  rw [Nat.mul_one, Nat.mul_one, ← List.map_take, ← List.map_drop] at h1
  unfold IntsAt
  rw [List.length_drop, List.length_take, Nat.min_eq_left hh]
  exact h1
/-- what appends and makes ask of an element's type -/
structure Elem (P : Program) (t e : TypeId) (z : Value) (size bytes : Nat) : Prop where
  ht : P.underlying t = some (.slice e)
  hi : ∃ i, P.info? e = some i ∧ i.zero = some z ∧ i.size = size ∧ i.bytes = bytes
  hzs : z.cells.size = size
  hsz : 0 < size
/-- make of a row whose length is known -/
theorem run_make_elem {P : Program} {t e : TypeId} {z : Value} {size bytes : Nat} (hE : Elem P t e z size bytes) (kl kc : IntKind) (n : Nat) (hb : bytes * n ≤ 281474976710656) (h63 : n ≤ 9223372036854775807) (w : World) :
    (Instr.makeSlice t (.int kl (n : Int)) (.int kc (n : Int))).run P w = .ok (.slice (some ⟨w.heap.size, 0, none⟩) n n) (w.alloc (.cells (madeCells z.cells (n * size)) e)) := by
  obtain ⟨i, hi, hz0, hz1, hz2⟩ := hE.hi
  have hb' : (i.bytes : Int) * (n : Int) ≤ 281474976710656 := by
    have h : ((i.bytes * n : Nat) : Int) ≤ 281474976710656 := by rw [hz2]; omega
    rwa [Int.natCast_mul] at h
  have hr := run_make (P := P) w t e i z hE.ht hi hz0 kl kc n n (by omega) (Int.le_refl _) hb' (by omega)
  simp only [Int.toNat_natCast, hz1] at hr
  exact hr
/-- a made row whose cells are all alike -/
theorem owns_made {w : World} {base : Nat} {e : TypeId} {size n : Nat} {u : Value} {z : Array Value} (hz : z.toList = List.replicate size u) (hs : 0 < size) (hb : base ≤ w.heap.size) (hm : n ≤ maxLen) :
    (w.alloc (.cells (madeCells z (n * size)) e)).ownsRow base e size (.slice (some ⟨w.heap.size, 0, none⟩) n n) n (List.replicate (n * size) u) := by
  have h := World.ownsRow_lit (w := w) (e := e) (size := size) (base := base) (madeCells z (n * size)) n hb hm (size_madeCells _ _)
  have e1 : (madeCells z (n * size)).toList = List.replicate (n * size) u := by
    have hzs : z.size = size := by have := congrArg List.length hz; simpa using this
    have hu : ∀ i (hi : i < z.size), z[i] = u := by
      intro i hi
      have := List.getElem_of_eq hz (i := i) (by simpa using hi)
      simpa using this
    apply List.ext_getElem
    · simp [madeCells]
    · intro i h1 h2
      have hlt : i % z.size < z.size := Nat.mod_lt _ (by omega)
      simp [madeCells, hlt, hu]
  rw [e1] at h
  exact h
/-- append of one element, which lies in a block that was just made -/
theorem append_one {P : Program} {ops : Array Oper} {rest : List Oper} {o : Oper} {a : Act} {Q : Exit → Act → World → Prop} {W : World} {t e e' : TypeId} {z : Value} {size bytes base n : Nat} {v : Value} {xs : List Value} {news : Array Value}
    (hE : Elem P t e z size bytes) (hgd : o.guard = none) (s x : Operand) (ho : o.op = .call { callee := .builtin .append, args := #[s, x], argTypes := #[t, t] })
    (hs : a.eval s = v) (hx : a.eval x = .slice (some ⟨W.heap.size, 0, none⟩) 1 1) (hown : W.ownsRow base e size v n xs)
    (hl : news.size = size) (h1 : ∀ u ∈ news.toList, u.oneCell' = true) (h63 : n + 1 ≤ maxLen) (hbytes : (n + 1) * bytes ≤ 140737488355328) (hbase : base ≤ W.heap.size)
    (h : ∀ v' w', w'.ownsRow base e size v' (n + 1) (xs ++ news.toList) → W.grownBy w' v.ownBlock → wpList P ops Q rest (a.put o.dst v') w') : wpList P ops Q (o :: rest) a (W.alloc (.cells news e')) := by
  obtain ⟨i, hi, hz0, hz1, hz2⟩ := hE.hi
  refine wpList_append_own _ hgd s x t ho base e i z size bytes hE.ht hi hz0 hz1 hz2 hE.hzs hE.hsz v n xs hs (hown.alloc _) ⟨W.heap.size, 0, none⟩ 1 1 news.toList hx (by simp [hl]) ?_ h1 h63 hbytes (by simp; omega) ?_
  · intro j u hj
    rw [Go.WideShapes.add_plain]
    have h1 : (W.alloc (.cells news e')).heap[W.heap.size]? = some (.cells news e') := (MapKept.heap_alloc W _).1
    simp only [World.cell?, h1]
    simpa using hj
  · intro v' w' ho' hg _
    refine h v' w' ho' ⟨hg.os, hg.tape, hg.output, Nat.le_trans (by simp) hg.size, fun k hk hne => ?_⟩
    rw [hg.block k (by simp; omega) hne]
    exact Below.heap_alloc _ _ _ hk
theorem append_at {P : Program} {ops : Array Oper} {rest : List Oper} {o : Oper} {a : Act} {Q : Exit → Act → World → Prop} {W : World} {t e e' : TypeId} {z : Value} {size bytes base n g : Nat} {v : Value} {xs : List Value} {news : Array Value}
    (hE : Elem P t e z size bytes) (hgd : o.guard = none) (s x : Operand) (ho : o.op = .call { callee := .builtin .append, args := #[s, x], argTypes := #[t, t] })
    (hs : a.eval s = v) (hx : a.eval x = .slice (some ⟨g, 0, none⟩) 1 1) (hown : W.ownsRow base e size v n xs)
    (hl : news.size = size) (hg : W.heap.size = g) (h1 : ∀ u ∈ news.toList, u.oneCell' = true) (h63 : n + 1 ≤ maxLen) (hbytes : (n + 1) * bytes ≤ 140737488355328) (hbase : base ≤ W.heap.size)
    (h : ∀ v' w', w'.ownsRow base e size v' (n + 1) (xs ++ news.toList) → W.grownBy w' v.ownBlock → wpList P ops Q rest (a.put o.dst v') w') : wpList P ops Q (o :: rest) a (W.alloc (.cells news e')) := by
  subst hg
  exact append_one hE hgd s x ho hs hx hown hl h1 h63 hbytes hbase h
theorem below_appended {B base : Nat} {w0 W w' : World} {e : TypeId} {size n : Nat} {v : Value} {xs : List Value} (h : Below B w0 W) (hown : W.ownsRow base e size v n xs) (hg : W.grownBy w' v.ownBlock) (hb : B ≤ base) (hB : B ≤ W.heap.size) : Below B w0 w' :=
  h.grown hg hB (fun k hk => Nat.le_trans hb (hown.lt k hk).1)
theorem owns_mono {w : World} {base base' size n : Nat} {e : TypeId} {v : Value} {xs : List Value} (hb : base' ≤ base) (h : w.ownsRow base e size v n xs) : w.ownsRow base' e size v n xs := by
  obtain ⟨hl, h | ⟨g, cap, cur, hv, hg, r⟩⟩ := h
  · exact ⟨hl, .inl h⟩
  · exact ⟨hl, .inr ⟨g, cap, cur, hv, Nat.le_trans hb hg, r⟩⟩
/-- a row in an older block is not the one that grows -/
theorem own_apart {w : World} {base base' size size' n n' B : Nat} {e e' : TypeId} {v v' : Value} {xs xs' : List Value} (_hown : w.ownsRow base e size v n xs) (hout : w.ownsRow base' e' size' v' n' xs') (hb : v.ownBlock = some B) (hB : B < base') : v.ownBlock = none ∨ v.ownBlock ≠ v'.ownBlock :=
  .inr fun h => by have := (hout.lt B (by rw [← h, hb])).1; omega
/-- a copy, wherever it lies: what a clone's contract says, in the words of this text -/
def ClonedTo (E : TypeId) (size n : Nat) (xs : List Value) (w : World) (e : Ending) (w' : World) : Prop := ∃ v, e = .returned v ∧ w'.ownsRow w.heap.size E size v n xs ∧ Below w.heap.size w w'
/-- a slice of integers among the arguments -/
theorem arg_ints {H : Type} {enc : TypeId × Value → H} {P : Program} {w : World} {t e : TypeId} {k : IntKind} {v : Value} {d : DataW H} {p : List MemPlace} {base : Nat} (ht : P.underlying t = some (.slice e)) (he : P.underlying e = some (.int k)) (hc : P.cellsOf e = 1)
    (hok : Value.okWide P w .any base t v) (h : DataW.Trod enc P w 0 (fun _ => true) true t v d p) :
    ∃ zs : List Int, IntsAt k w.heap.size w v zs ∧ (∀ z ∈ zs, (Lit.int k z).wf = true) ∧ zs.length ≤ maxLen := by
  obtain ⟨a0, len, cap, rfl⟩ := okWide_slice ht hok
  obtain ⟨fuel, hf⟩ := h
  rcases open_ints ht he hc hf with ⟨hcs, hx⟩ | ⟨a, len', cap', zs, hcs, _, hl, hm, hz, hx, hcell, hwz⟩
  · have e1 : Value.slice a0 len cap = .slice none 0 0 := by simpa [Value.cells] using hcs
    rw [e1]
    exact ⟨[], IntsAt.nil, by simp, by simp⟩
  · have e1 : Value.slice a0 len cap = .slice (some a) len' cap' := by simpa [Value.cells] using hcs
    rw [e1]
    simp only [if_true] at hz
    have hlz : (zs.take len').length = len' := by rw [List.length_take]; omega
    refine ⟨zs.take len', ?_, fun z hz' => hwz z (List.mem_of_mem_take hz'), by omega⟩
    have hh : w.has P .any base a e cap' := by
      rw [e1] at hok
      simp only [Value.okWide, ht, Cell.okWide, Cell.ok] at hok
      exact hok.2.2
    obtain ⟨_, hspot, row, cells, hsh, _⟩ := hh
    obtain ⟨b, off, spot⟩ := a
    cases hspot
    have hb : b < w.heap.size := by
      apply Nat.lt_of_not_le
      intro hge
      simp [World.shape?, Array.getElem?_eq_none hge] at hsh
    have := IntsAt.mk (q := k) (n₀ := w.heap.size) (b := b) (off := off) (cap := cap') (w := w) (zs := zs.take len') (by omega) hb (fun j hj => by
        rw [hlz] at hj
        have := hcell j (by omega)
        rw [Go.WideShapes.add_plain] at this
        rw [this, List.getElem?_take, if_pos hj]
        simp)
    rw [hlz] at this
    exact this
end Go.Proofs.YtcnabebcckbfkaaDoor
