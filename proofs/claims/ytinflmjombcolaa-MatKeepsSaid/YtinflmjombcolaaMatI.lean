/- Layer 7: the rows, as a range loop asks for them. -/
import Derived.Test.YtinflmjombcolaaMatH
namespace Go.Proofs.Ytinflmjombcolaa
open Go.RowKit Go.Shelf
set_option linter.unusedVariables false
theorem keepM_b {n₀ B R C : Nat} {v : Value} {w : World} (hn : n₀ ≤ w.heap.size) (hB : B < w.heap.size) (W : World) (l : Nat) (o o' : Obj) (hl : w.heap.size ≤ l) (ho : W.heap[l]? = some o) (h1 : o.isCells = false) (h2 : o.isWalk = false) : KeepM n₀ B R C v W (W.putObj l o') :=
  ⟨belowK_b hn W l o o' hl ho h1 h2, fun hb => ((grownBy_putObj' W l o').block B hb.lt (fun e => by cases e; omega)).trans hb⟩
theorem rows_stops (n : Nat) (hn : 1 ≤ n) (Bm n₀ : Nat) (R C m cap b off : Nat) (hC0 : 1 ≤ C) (hC : C ≤ 1048576) (hR : R ≤ 1048576) (hm : m = R * C) (hm20 : m ≤ 1048576) (hcap : m ≤ cap) (w : World)
    (hn₀ : n₀ ≤ w.heap.size) (hbm : BoxM w Bm R C (.slice (some ⟨b, off, none⟩) m cap)) :
    SeqStopsK Fence.wide n Try.prog 41 #[.pointer (some ⟨Bm, 0, none⟩)] (encM b off C (R := R)) (KeepM n₀ Bm R C (.slice (some ⟨b, off, none⟩) m cap)) (fun ys => ys = List.finRange R) (fun pre => pre <+: List.finRange R) R w := fun l J Jx W hW hJ hJx hY h0 =>
  rows_in n hn l Bm n₀ R C m cap b off hC0 hC hR hm hm20 hcap W J Jx hJ hY (Nat.le_trans hn₀ hW.size) ((hW.block _ hbm.lt).trans hbm) h0
end Go.Proofs.Ytinflmjombcolaa
