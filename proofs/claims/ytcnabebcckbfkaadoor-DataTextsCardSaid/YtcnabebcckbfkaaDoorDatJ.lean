/- Layer 10: a text split at its spaces gives its words. -/
import Derived.Test.YtcnabebcckbfkaaDoorDatI
import Derived.Test.YtcnabebcckbfkaaDoorDecQ
import Derived.Lib.SplitLaws
import Derived.Lib.CountLaws
import Derived.Lib.IndexLaws
namespace Go.Proofs.YtcnabebcckbfkaaDoor
open Go.RowKit
set_option linter.unusedVariables false
theorem index_word : ∀ (x rest : List UInt8), (32 : UInt8) ∉ x → Lib.index (x ++ 32 :: rest) [32] = (x.length : Int)
  | [], rest, _ => by
    rw [List.nil_append]
    unfold Lib.index
    simp [List.isPrefixOf]
  | b :: x, rest, h => by
    have hb : ¬ (32 : UInt8) = b := fun e => h (by rw [e]; exact List.mem_cons_self)
    have ih := index_word x rest (fun m => h (List.mem_cons_of_mem _ m))
    rw [List.cons_append]
    unfold Lib.index
    rw [ih]
    have h1 : ([32] : List UInt8).isPrefixOf (b :: (x ++ 32 :: rest)) = false := by simp [List.isPrefixOf, hb]
    have h2 : ((x.length : Int) == -1) = false := by simp
    rw [h1, h2]
    simp
theorem index_noword : ∀ (x : List UInt8), (32 : UInt8) ∉ x → Lib.index x [32] = -1
  | [], _ => by unfold Lib.index; simp
  | b :: x, h => by
    have hb : ¬ (32 : UInt8) = b := fun e => h (by rw [e]; exact List.mem_cons_self)
    have ih := index_noword x (fun m => h (List.mem_cons_of_mem _ m))
    unfold Lib.index
    rw [ih]
    have h1 : ([32] : List UInt8).isPrefixOf (b :: x) = false := by simp [List.isPrefixOf, hb]
    rw [h1]
    simp
theorem split_words : ∀ (ws : List (List UInt8)) (x : List UInt8), (∀ w ∈ x :: ws, (32 : UInt8) ∉ w) →
    Lib.countB ⟨(x ++ Lib.joinTail [32] ws).toArray⟩ ⟨#[32]⟩ = ws.length ∧ Lib.splitB ⟨#[32]⟩ 0 ws.length ⟨(x ++ Lib.joinTail [32] ws).toArray⟩ = (x :: ws).map (fun w => (⟨w.toArray⟩ : ByteArray))
  | [], x, h => by
    rw [tail_nil, List.append_nil]
    refine ⟨?_, rfl⟩
    exact Lib.countB_miss _ _ (index_noword x (h x List.mem_cons_self))
  | y :: ws, x, h => by
    have hx := h x List.mem_cons_self
    obtain ⟨i1, i2⟩ := split_words ws y (fun w hw => h w (List.mem_cons_of_mem _ hw))
    rw [tail_cons]
    have hi : Lib.indexB (⟨(x ++ 32 :: (y ++ Lib.joinTail [32] ws)).toArray⟩ : ByteArray) ⟨#[32]⟩ = (x.length : Nat) := index_word x _ hx
    have hsz : (⟨(x ++ 32 :: (y ++ Lib.joinTail [32] ws)).toArray⟩ : ByteArray).size = x.length + 1 + (y ++ Lib.joinTail [32] ws).length := by simp [ByteArray.size]; omega
    have he : (⟨(x ++ 32 :: (y ++ Lib.joinTail [32] ws)).toArray⟩ : ByteArray).extract (x.length + 1) (⟨(x ++ 32 :: (y ++ Lib.joinTail [32] ws)).toArray⟩ : ByteArray).size = ⟨(y ++ Lib.joinTail [32] ws).toArray⟩ := by
      rw [hsz, extract_list, show x.length + 1 + (y ++ Lib.joinTail [32] ws).length - (x.length + 1) = (y ++ Lib.joinTail [32] ws).length by omega]
      rw [show x ++ 32 :: (y ++ Lib.joinTail [32] ws) = (x ++ [32]) ++ (y ++ Lib.joinTail [32] ws) by simp, List.drop_left' (by simp), List.take_length]
    have he0 : (⟨(x ++ 32 :: (y ++ Lib.joinTail [32] ws)).toArray⟩ : ByteArray).extract 0 (x.length + 0) = ⟨x.toArray⟩ := by
      rw [extract_list]; simp
    constructor
    · rw [Lib.countB_hit _ _ x.length (by decide) hi, show x.length + (⟨#[32]⟩ : ByteArray).size = x.length + 1 from rfl, he, i1, List.length_cons]
      omega
    · rw [List.length_cons, Lib.splitB_hit _ _ _ _ x.length hi, show x.length + (⟨#[32]⟩ : ByteArray).size = x.length + 1 from rfl, he, he0, i2]
      rfl
end Go.Proofs.YtcnabebcckbfkaaDoor
