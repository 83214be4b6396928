/- Layer 15: ranges that begin further behind. -/
import Derived.Test.YtpghiebedjogpaaBucB
namespace Go.Proofs.Ytpghiebedjogpaa
open Go.RowKit Go.Shelf
set_option linter.unusedVariables false
theorem run_make_cap {P : Program} {t e : TypeId} {z : Value} {size bytes : Nat} (hE : Elem P t e z size bytes) (kl kc : IntKind) (n : Nat) (hb : bytes * n ≤ 281474976710656) (h63 : n ≤ 9223372036854775807) (w : World) :
    (Instr.makeSlice t (.int kl 0) (.int kc (n : Int))).run P w = .ok (.slice (some ⟨w.heap.size, 0, none⟩) 0 n) (w.alloc (.cells (madeCells z.cells (n * size)) e)) := by
  obtain ⟨i, hi, hz0, hz1, hz2⟩ := hE.hi
  have hb' : (i.bytes : Int) * (n : Int) ≤ 281474976710656 := by
    have h : ((i.bytes * n : Nat) : Int) ≤ 281474976710656 := by rw [hz2]; omega
    rwa [Int.natCast_mul] at h
  have hr := run_make (P := P) w t e i z hE.ht hi hz0 kl kc 0 n (by omega) (by omega) hb' (by omega)
  simp only [Int.toNat_natCast, hz1] at hr
  exact hr
theorem owns_cap {w : World} {base : Nat} {e : TypeId} {size n : Nat} {z : Array Value} (hb : base ≤ w.heap.size) (hm : n ≤ maxLen) :
    (w.alloc (.cells (madeCells z (n * size)) e)).ownsRow base e size (.slice (some ⟨w.heap.size, 0, none⟩) 0 n) 0 [] :=
  ⟨by simp, .inr ⟨w.heap.size, n, madeCells z (n * size), rfl, hb, World.alloc_heap_new w _, Nat.zero_le _, hm, size_madeCells _ _, by simp⟩⟩
/-- a block of two cells -/
def Cells2 (W : World) (B : Nat) (t : TypeId) (x y : Value) : Prop := W.heap[B]? = some (.cells #[x, y] t (0, 0))
theorem Cells2.lt {W : World} {B : Nat} {t : TypeId} {x y : Value} (h : Cells2 W B t x y) : B < W.heap.size := (Array.getElem?_eq_some_iff.1 h).1
theorem Cells2.cells {W : World} {B : Nat} {t : TypeId} {x y : Value} (h : Cells2 W B t x y) : W.cell? ⟨B, 0, none⟩ = some x ∧ W.cell? ⟨B, 1, none⟩ = some y := by
  constructor
  · simp [World.cell?, show W.heap[B]? = _ from h]
  · simp [World.cell?, show W.heap[B]? = _ from h]
theorem Cells2.new (W : World) (t : TypeId) (x y : Value) : Cells2 (W.alloc (.cells #[x, y] t)) W.heap.size t x y := World.alloc_heap_new W _
theorem cells2_own {β : Type} (B : Nat) (t : TypeId) (f g : β → Value) : Own (fun s W => Cells2 W B t (f s) (g s)) := fun s X Y row hs hg hrow =>
  (hg.block B hs.lt (fun e' => by obtain ⟨o, ho, hc⟩ := hrow B e'.symm; rw [show X.heap[B]? = _ from hs] at ho; cases ho; cases hc)).trans hs
/-- behind an append and the store of its result, another box is as it was -/
theorem boxed_appended {W w1 : World} {n₀ B B' : Nat} {e t' : TypeId} {size : Nat} {v v' x : Value} {k : Nat} {xs : List Value} {tmp : Obj}
    (hx : Boxed W B' t' x) (hne : B' ≠ B) (hte : t' ≠ e) (hrow : W.ownsRow n₀ e size v k xs) (hgrow : (W.alloc tmp).grownBy w1 v.ownBlock) : Boxed (w1.setCell ⟨B, 0, none⟩ v') B' t' x :=
  ((hx.alloc tmp).kept hgrow (hx.not_row hte hrow)).other hne v'
/-- append of one element, which lies in a block that was just made, inside a fence -/
theorem append_oneIn {F : Fence} {d : Nat} {P : Program} {ops : Array Oper} {rest : List Oper} {o : Oper} {a : Act} {Q : Exit → Act → World → Prop} {W : World} {t e e' : TypeId} {z : Value} {size bytes base n : Nat} {v : Value} {xs : List Value} {news : Array Value}
    (hE : Elem P t e z size bytes) (hgd : o.guard = none) (s x : Operand) (ho : o.op = .call { callee := .builtin .append, args := #[s, x], argTypes := #[t, t] })
    (hs : a.eval s = v) (hx : a.eval x = .slice (some ⟨W.heap.size, 0, none⟩) 1 1) (hown : W.ownsRow base e size v n xs)
    (hl : news.size = size) (h1 : ∀ u ∈ news.toList, u.oneCell' = true) (h63 : n + 1 ≤ maxLen) (hbytes : (n + 1) * bytes ≤ 140737488355328) (hbase : base ≤ W.heap.size)
    (h : ∀ v' w', w'.ownsRow base e size v' (n + 1) (xs ++ news.toList) → (W.alloc (.cells news e')).grownBy w' v.ownBlock → wpListIn F d P ops Q rest (a.put o.dst v') w') : wpListIn F d P ops Q (o :: rest) a (W.alloc (.cells news e')) := by
  obtain ⟨i, hi, hz0, hz1, hz2⟩ := hE.hi
  refine wpListIn_append_own _ hgd s x t ho base e i z size bytes hE.ht hi hz0 hz1 hz2 hE.hzs hE.hsz v n xs hs (hown.alloc _) ⟨W.heap.size, 0, none⟩ 1 1 news.toList hx (by simp [hl]) ?_ h1 h63 hbytes (by simp; omega) ?_
  · intro j u hj
    rw [Go.WideShapes.add_plain]
    have h1 : (W.alloc (.cells news e')).heap[W.heap.size]? = some (.cells news e') := (MapKept.heap_alloc W _).1
    simp only [World.cell?, h1]
    simpa using hj
  · intro v' w' ho' hg _
    exact h v' w' ho' hg
def AnyV (pre : List (Int × Int)) (v : Value) : Prop := True
theorem shift_stops (n : Nat) (hn : 1 ≤ n) (Bl Bs By n₀ : Nat) (v : Value) (rs : List (Int × Int)) (by_ : Int) (hm : rs.length ≤ 1048576) (hr : Near rs) (h5 : -1099511627776 ≤ by_) (h6 : by_ ≤ 1099511627776) (w : World)
    (hn₀ : n₀ ≤ w.heap.size) (hv : RangesAt n₀ w v rs) (hl : Boxed w Bl 28 v) (hs : Boxed w Bs 65 (.func (.func 38) #[] #[.pointer (some ⟨By, 0, none⟩)])) (hy : Boxed w By 3 (.int .i64 by_)) :
    SeqStopsK Fence.wide n Try.prog 39 #[.pointer (some ⟨Bl, 0, none⟩), .pointer (some ⟨Bs, 0, none⟩)] encR
      (KeepB n₀ [(Bs, 65, Value.func (.func 38) #[] #[.pointer (some ⟨By, 0, none⟩)]), (By, 3, Value.int .i64 by_)]) (fun ys => ys = shiftR rs by_) (fun pre => pre <+: shiftR rs by_) rs.length w := fun l J Jx W hW hJ hJx hY h0 =>
  shift2_in n hn l Bl Bs By n₀ v rs by_ hm hr h5 h6 W J Jx hJ _ (by simp) (by simp) hY (Nat.le_trans hn₀ hW.size) (SliceAt.below (hW.mono hn₀) hv) ((hW.block _ hl.lt).trans hl) ((hW.block _ hs.lt).trans hs) ((hW.block _ hy.lt).trans hy) h0
section
attribute [local go_sem] Oper.semAt_some
set_option maxRecDepth 100000 in
set_option maxHeartbeats 2000000 in
theorem behind_any (v : Value) (rs : List (Int × Int)) (by_ : Int) (hm : rs.length ≤ 1048576) (hr : Near rs) (h5 : -1099511627776 ≤ by_) (h6 : by_ ≤ 1099511627776) (w : World) (hv : RangesAt w.heap.size w v rs) :
    Calls Try.prog 27 #[v, .int .i64 by_] w (NewRanges 33 (shiftR rs by_) w) := by
  obtain ⟨a, c, rfl⟩ := hv.value
  have hmk := run_make_cap elemPR .i64 .i64 rs.length (by omega) (by omega)
  refine (callsIn_wide (n := 8)).1 ?_
  refine callsIn_of_wp_marks Try.func27 rfl trivial ?_ rfl
  simp only [Try.ntmps27, List.size_toArray, List.length_cons, List.length_nil, Nat.reduceAdd, Nat.reduceSub, Array.replicate_succ, Array.replicate_zero, List.push_toArray, List.append_toArray, List.nil_append, List.cons_append]
  gi_wp2_with fail
  refine ⟨trivial, ?_⟩
  refine (callsIn_wide.2 (shifted_any a rs.length c by_ _)).mono ?_
  rintro e W1 ⟨rfl, rfl⟩
  have ho := owns_cap (w := w) (base := w.heap.size) (e := 33) (size := 2) (n := rs.length) (z := #[.int .i64 0, .int .i64 0]) (Nat.le_refl _) (by unfold maxLen; omega)
  have b0 : Below w.heap.size w (w.alloc (.cells (madeCells #[.int .i64 0, .int .i64 0] (rs.length * 2)) 33)) := (Below.refl _ w).alloc (Nat.le_refl _) _
  gi_wp2_with fail
  have R1 := ((((ho.alloc (.cells #[.slice (some ⟨w.heap.size, 0, none⟩) 0 rs.length] 28)).alloc (.cells #[.slice a rs.length c] 28)).alloc (.cells #[.int .i64 by_] 3)).alloc (.cells #[.func (.func 38) #[] #[.pointer (some ⟨w.heap.size + 1 + 1 + 1, 0, none⟩)]] 65))
  have R2 := (((Boxed.new (w.alloc (.cells (madeCells #[.int .i64 0, .int .i64 0] (rs.length * 2)) 33)) 28 (.slice (some ⟨w.heap.size, 0, none⟩) 0 rs.length)).alloc (.cells #[.slice a rs.length c] 28)).alloc (.cells #[.int .i64 by_] 3)).alloc (.cells #[.func (.func 38) #[] #[.pointer (some ⟨w.heap.size + 1 + 1 + 1, 0, none⟩)]] 65)
  have R3 := ((Boxed.new ((w.alloc (.cells (madeCells #[.int .i64 0, .int .i64 0] (rs.length * 2)) 33)).alloc (.cells #[.slice (some ⟨w.heap.size, 0, none⟩) 0 rs.length] 28)) 28 (.slice a rs.length c)).alloc (.cells #[.int .i64 by_] 3)).alloc (.cells #[.func (.func 38) #[] #[.pointer (some ⟨w.heap.size + 1 + 1 + 1, 0, none⟩)]] 65)
  have R4 := (Boxed.new (((w.alloc (.cells (madeCells #[.int .i64 0, .int .i64 0] (rs.length * 2)) 33)).alloc (.cells #[.slice (some ⟨w.heap.size, 0, none⟩) 0 rs.length] 28)).alloc (.cells #[.slice a rs.length c] 28)) 3 (.int .i64 by_)).alloc (.cells #[.func (.func 38) #[] #[.pointer (some ⟨w.heap.size + 1 + 1 + 1, 0, none⟩)]] 65)
  have R5 := Boxed.new ((((w.alloc (.cells (madeCells #[.int .i64 0, .int .i64 0] (rs.length * 2)) 33)).alloc (.cells #[.slice (some ⟨w.heap.size, 0, none⟩) 0 rs.length] 28)).alloc (.cells #[.slice a rs.length c] 28)).alloc (.cells #[.int .i64 by_] 3)) 65 (.func (.func 38) #[] #[.pointer (some ⟨w.heap.size + 1 + 1 + 1, 0, none⟩)])
  have hB0 : Below w.heap.size w (((((w.alloc (.cells (madeCells #[.int .i64 0, .int .i64 0] (rs.length * 2)) 33)).alloc (.cells #[.slice (some ⟨w.heap.size, 0, none⟩) 0 rs.length] 28)).alloc (.cells #[.slice a rs.length c] 28)).alloc (.cells #[.int .i64 by_] 3)).alloc (.cells #[.func (.func 38) #[] #[.pointer (some ⟨w.heap.size + 1 + 1 + 1, 0, none⟩)]] 65)) :=
    (((b0.alloc (by simp) _).alloc (by simp; omega) _).alloc (by simp; omega) _).alloc (by simp; omega) _
  have hsz : (((((w.alloc (.cells (madeCells #[.int .i64 0, .int .i64 0] (rs.length * 2)) 33)).alloc (.cells #[.slice (some ⟨w.heap.size, 0, none⟩) 0 rs.length] 28)).alloc (.cells #[.slice a rs.length c] 28)).alloc (.cells #[.int .i64 by_] 3)).alloc (.cells #[.func (.func 38) #[] #[.pointer (some ⟨w.heap.size + 1 + 1 + 1, 0, none⟩)]] 65)).heap.size = w.heap.size + 5 := by simp
  simp only [World.size_alloc] at R2 R3 R4 R5
  generalize ((((w.alloc (.cells (madeCells #[.int .i64 0, .int .i64 0] (rs.length * 2)) 33)).alloc (.cells #[.slice (some ⟨w.heap.size, 0, none⟩) 0 rs.length] 28)).alloc (.cells #[.slice a rs.length c] 28)).alloc (.cells #[.int .i64 by_] 3)).alloc (.cells #[.func (.func 38) #[] #[.pointer (some ⟨w.heap.size + 1 + 1 + 1, 0, none⟩)]] 65) = W0 at R1 R2 R3 R4 R5 hB0 hsz ⊢
  clear ho b0 hmk
  refine wpIn_rangeFunc_ownH rfl (by omega) (gf := 39) (lb := #[.pointer (some ⟨w.heap.size + 1 + 1, 0, none⟩), .pointer (some ⟨w.heap.size + 1 + 1 + 1 + 1, 0, none⟩)]) rfl trivial (enters_of Try.func39 (by kernel_rfl) rfl)
    (shift_stops 7 (by omega) (w.heap.size + 1 + 1) (w.heap.size + 1 + 1 + 1 + 1) (w.heap.size + 1 + 1 + 1) w.heap.size _ rs by_ hm hr h5 h6 W0 (by omega) (SliceAt.below hB0 hv) R3 R5 R4) KeepB.trans (keepB_b (by omega) (by simp; omega)) (Below.refl _ _) (fun _ => rfl)
    (fun pre W => (∃ u, Boxed W (w.heap.size + 1) 28 u ∧ W.ownsRow w.heap.size 33 2 u pre.length (rcells pre) ∧ AnyV pre u) ∧ Below w.heap.size w W)
    (fun _ _ _ => False)
    (OwnFrom.and (Own.from (holdsRow_own w.heap.size (w.heap.size + 1) 28 33 2 (fun pre => pre.length) (fun pre => rcells pre) AnyV) _) (ownFrom_below (Nat.le_refl _) (by omega)))
    (fun _ _ _ _ _ hs _ _ => hs)
    ⟨⟨_, R2, R1, trivial⟩, hB0⟩
    (fun x a' W => ∃ Bx, Cells2 W Bx 33 (.int .i64 x.1) (.int .i64 x.2) ∧ a' = { tmps := #[Value.slice a rs.length c, Value.int IntKind.i64 by_, undef, undef, Value.slice none 0 0, Value.pointer (some ⟨w.heap.size + 1, 0, none⟩), .pointer (some ⟨Bx, 0, none⟩), Value.slice a rs.length c, Value.int IntKind.i64 rs.length, Value.slice (some ⟨w.heap.size, 0, none⟩) 0 rs.length, Value.slice a rs.length c, Value.int IntKind.i64 by_,
        Value.func (Fn.func 39) #[] #[Value.pointer (some ⟨w.heap.size + 1 + 1, 0, none⟩), Value.pointer (some ⟨w.heap.size + 1 + 1 + 1 + 1, 0, none⟩)], .agg #[.int .i64 x.1, .int .i64 x.2], undef, undef, undef, undef, undef], defers := [] })
    (fun x a' _ X Y row hs hg hr => by obtain ⟨Bx, h2, h3⟩ := hs; exact ⟨Bx, cells2_own Bx 33 (fun (_ : Unit) => Value.int .i64 x.1) (fun (_ : Unit) => Value.int .i64 x.2) () X Y row h2 hg (fun r e => (hr r e).2), h3⟩)
    ?assign ?body ?done ?stop
  case assign =>
    rintro l pre x W K ⟨⟨u, hu, hrow, _⟩, hB⟩ hK
    unfold encR
    gi_wp2
    exact hK _ _ ((KeepsOthers.alloc _ _).from _) (keepB_grown ((Below.refl _ W).alloc (Nat.le_refl _) _) hB.size) ⟨⟨u, hu.alloc _, hrow.alloc _, trivial⟩, hB.alloc hB.size _⟩ ⟨W.heap.size, Cells2.new W _ _ _, rfl⟩
  case body =>
    rintro l pre x a' W hl ⟨r, hr⟩ ⟨⟨u, hu, hrow, _⟩, hB⟩ ⟨Bx, hx, rfl⟩ hlt
    have cu := hu.cell
    have cx := hx.cells
    obtain ⟨cx0, cx1⟩ := cx
    have cul := hu.lt
    have cxl := hx.lt
    have HB := Lib.hid hB
    have HU := Lib.hid hu
    have HR := Lib.hid hrow
    clear hB hu hrow
    gi_wp2_with (gi_at_builtin; refine append_oneIn elemPR rfl _ _ rfl rfl rfl HR.out rfl ?_ ?_ ?_ ?_ ?_; (simp [Value.oneCell']); (unfold maxLen; omega); omega; (exact HB.out.size); intro v' w1 hown' hgrow; obtain ⟨g', cap', rfl⟩ := ownsRow_succ hown'; obtain ⟨hv1, hv2, hr2, hk2, hb2⟩ := HU.out.appended (by decide) HR.out HB.out.size (by omega) hown' hgrow; have HV2 := Lib.hid hv2; have HR2 := Lib.hid hr2; have HK2 := Lib.hid hk2; have HB2 := Lib.hid hb2; have HG := Lib.hid hgrow; have hc1 := hv1.cell; have hf1 := hv1.frozen; clear hv2 hr2 hk2 hb2 hgrow hown')
    refine ⟨HK2.out.from _, ⟨HB2.out, ?_⟩, ⟨⟨_, HV2.out, ?_, trivial⟩, HB.out.trans HB2.out⟩⟩
    · intro y hy hyb
      simp only [List.mem_cons, List.not_mem_nil, or_false] at hy
      rcases hy with rfl | rfl
      · exact boxed_appended hyb (by simp; omega) (by simp) HR.out HG.out
      · exact boxed_appended hyb (by simp; omega) (by simp) HR.out HG.out
    · rw [rcells_snoc, List.length_append]
      exact HR2.out
  case done =>
    rintro D ys W hD rfl ⟨⟨u, hu, hrow, _⟩, hB⟩ hK
    have cu := hu.cell
    have HR := Lib.hid hrow
    have HB := Lib.hid hB
    clear hrow hB
    gi_wp2
    refine ⟨by simp, .inl ⟨_, _, rfl, run_takeDeferred hK, ?_⟩⟩
    exact ⟨_, results_tmp rfl _ _ _, u, rfl, ownsRow_putObj HR.out _ hK rfl, HB.out.trans (belowK_b (w := w) (Nat.le_refl _) W D _ _ (by omega) hK rfl rfl)⟩
  case stop =>
    rintro D c pre W _ _ h _
    exact h.elim
end
end Go.Proofs.Ytpghiebedjogpaa
