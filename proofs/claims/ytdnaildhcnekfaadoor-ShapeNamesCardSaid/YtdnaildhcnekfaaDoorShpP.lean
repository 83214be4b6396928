/- Layer 8: a parameter's name leads back to the parameter; the list of all places. -/
import Derived.Test.YtdnaildhcnekfaaDoorDigA
namespace Go.Proofs.YtdnaildhcnekfaaDoor
open Go.RowKit
set_option linter.unusedVariables false
theorem scanN_step (l : List UInt8) (f pos : Nat) (L : Int) (k : Nat) (ns : Nat → Int) (b : UInt8) (rest : List UInt8) (h : l.drop pos = b :: rest) (hb : b.toNat < 128) :
    scanN ⟨l.toArray⟩ (f + 1) pos L k ns = if pos = 0 then scanN ⟨l.toArray⟩ f (pos + 1) (b.toNat : Nat) k ns else if b.toNat = 46 ∧ k < 2 then scanN ⟨l.toArray⟩ f (pos + 1) L (k + 1) ns else if 48 ≤ b.toNat ∧ b.toNat ≤ 57 then scanN ⟨l.toArray⟩ f (pos + 1) L k (upd ns k (digit10 (ns k) b.toNat)) else (L, ns) := by
  have hlt : pos < l.length := by
    rcases Nat.lt_or_ge pos l.length with h1 | h1
    · exact h1
    · rw [List.drop_eq_nil_of_le h1] at h; cases h
  have hg : l[pos] = b := by
    rw [List.drop_eq_getElem_cons hlt] at h
    exact (List.cons.inj h).1
  have hsz : pos < (⟨l.toArray⟩ : ByteArray).size := by simpa [ByteArray.size] using hlt
  have hget : (⟨l.toArray⟩ : ByteArray)[pos]'hsz = b := by
    show l.toArray[pos]'_ = b
    simpa using hg
  have hdec : Utf8.decode ⟨l.toArray⟩ pos = (b.toNat, 1) := by
    rw [decode_ascii _ pos hsz (by rw [hget]; exact hb), hget]
  rw [scanN, if_pos hsz, hdec]
theorem scanN_end (l : List UInt8) (f pos : Nat) (L : Int) (k : Nat) (ns : Nat → Int) (h : l.drop pos = []) : scanN ⟨l.toArray⟩ f pos L k ns = (L, ns) := by
  cases f with
  | zero => rfl
  | succ f =>
    have hsz : ¬ pos < (⟨l.toArray⟩ : ByteArray).size := by
      have := List.drop_eq_nil_iff.1 h
      simp [ByteArray.size]
      omega
    rw [scanN, if_neg hsz]
/-- a number and digits behind it -/
def accD (v : Nat) (ds : List Nat) : Nat := ds.foldl (fun a d => 10 * a + d) v
theorem accD_ge : ∀ (ds : List Nat) (v : Nat), v ≤ accD v ds
  | [], v => Nat.le_refl _
  | d :: ds, v => by
    have := accD_ge ds (10 * v + d)
    show v ≤ accD (10 * v + d) ds
    omega
theorem accD_digs (n : Nat) : accD 0 (digsN n) = n := by
  induction n using Nat.strongRecOn with
  | ind n ih =>
    by_cases h : n < 10
    · rw [digsN_small h]; simp [accD]
    · rw [digsN_big h]
      unfold accD at ih ⊢
      rw [List.foldl_append, ih (n / 10) (by omega)]
      simp
      omega
theorem upd_upd (ns : Nat → Int) (k : Nat) (a b : Int) : upd (upd ns k a) k b = upd ns k b := by
  funext j
  unfold upd
  by_cases h : j = k <;> simp [h]
theorem upd_self (ns : Nat → Int) (k : Nat) (a : Int) : upd ns k a k = a := if_pos rfl
theorem digit10_eq (v d : Nat) (hd : d < 10) (hv : 10 * v + d ≤ 1000000000000) : digit10 v (48 + d) = ((10 * v + d : Nat) : Int) := by
  unfold digit10
  rw [IntWalk.wrap64_in (10 * (v : Int)) (by omega), IntWalk.wrap64_in _ (by omega)]
  omega
theorem scanN_digits (l : List UInt8) (k : Nat) (L : Int) : ∀ (ds : List Nat) (fuel pos v : Nat) (ns : Nat → Int) (rest : List UInt8), (∀ d ∈ ds, d < 10) → l.drop pos = ds.map digB ++ rest → ds.length ≤ fuel → 0 < pos → ns k = v → accD v ds ≤ 1000000000000 →
    scanN ⟨l.toArray⟩ fuel pos L k ns = scanN ⟨l.toArray⟩ (fuel - ds.length) (pos + ds.length) L k (upd ns k (accD v ds : Nat))
  | [], fuel, pos, v, ns, rest, _, _, _, _, hv, _ => by
    have e : upd ns k (v : Nat) = ns := by
      funext j
      unfold upd
      by_cases h : j = k
      · rw [if_pos h, h, hv]
      · rw [if_neg h]
    show _ = scanN ⟨l.toArray⟩ fuel pos L k (upd ns k (v : Nat))
    rw [e]
  | d :: ds, fuel, pos, v, ns, rest, hd, h, hf, hp, hv, ha => by
    obtain ⟨f, rfl⟩ : ∃ f, fuel = f + 1 := ⟨fuel - 1, by simp only [List.length_cons] at hf; omega⟩
    simp only [List.length_cons] at hf
    have hd10 := hd d (by simp)
    have hb := digB_toNat hd10
    have h1 : l.drop pos = digB d :: (ds.map digB ++ rest) := h
    have h2 : l.drop (pos + 1) = ds.map digB ++ rest := by rw [← List.drop_drop, h1]; rfl
    have ha' : accD (10 * v + d) ds ≤ 1000000000000 := ha
    have hge := accD_ge ds (10 * v + d)
    rw [scanN_step l f pos L k ns _ _ h1 (by rw [hb]; omega), if_neg (by omega), if_neg (by rw [hb]; omega), if_pos (by rw [hb]; omega), hb, hv, digit10_eq v d hd10 (by omega)]
    rw [scanN_digits l k L ds f (pos + 1) (10 * v + d) _ rest (fun x hx => hd x (by simp [hx])) h2 (by omega) (by omega) (upd_self _ _ _) ha', upd_upd]
    rw [List.length_cons]
    show scanN _ _ _ _ _ _ = scanN _ _ _ _ _ (upd ns k (accD (10 * v + d) ds : Nat))
    congr 1 <;> omega
theorem scanN_dot (l : List UInt8) (L : Int) (fuel pos k : Nat) (ns : Nat → Int) (rest : List UInt8) (h : l.drop pos = 46 :: rest) (hp : 0 < pos) (hk : k < 2) :
    scanN ⟨l.toArray⟩ (fuel + 1) pos L k ns = scanN ⟨l.toArray⟩ fuel (pos + 1) L (k + 1) ns := by
  rw [scanN_step l fuel pos L k ns _ _ h (by decide), if_neg (by omega), if_pos ⟨by decide, hk⟩]
/-- a letter, then numbers with points between them -/
def name2 (c : UInt8) (k r : Nat) : List UInt8 := c :: ((digsN k).map digB ++ 46 :: (digsN r).map digB)
def name3 (c : UInt8) (k r q : Nat) : List UInt8 := c :: ((digsN k).map digB ++ 46 :: ((digsN r).map digB ++ 46 :: (digsN q).map digB))
theorem split_name2 (c : UInt8) (hc : c.toNat < 128) (k r : Nat) (hk : k ≤ 1000000000) (hr : r ≤ 1000000000) :
    splitN ⟨(name2 c k r).toArray⟩ = (((c.toNat : Nat) : Int), upd (upd (fun _ => 0) 0 (k : Nat)) 1 (r : Nat)) := by
  obtain ⟨l, hl⟩ : ∃ l, l = name2 c k r := ⟨_, rfl⟩
  rw [← hl]
  have hlen := congrArg List.length hl
  unfold name2 at hlen
  rw [List.length_cons, List.length_append, List.length_cons, List.length_map, List.length_map] at hlen
  have d0 : l.drop 0 = c :: ((digsN k).map digB ++ 46 :: (digsN r).map digB) := by rw [hl]; rfl
  have d1 : l.drop 1 = (digsN k).map digB ++ 46 :: (digsN r).map digB := by rw [hl]; rfl
  have d2 : l.drop (1 + (digsN k).length) = 46 :: (digsN r).map digB := by rw [← List.drop_drop, d1, List.drop_left' (by rw [List.length_map])]
  have d3 : l.drop (1 + (digsN k).length + 1) = (digsN r).map digB ++ [] := by rw [← List.drop_drop, d2, List.append_nil]; rfl
  have d4 : l.drop (1 + (digsN k).length + 1 + (digsN r).length) = [] := by rw [← List.drop_drop, d3, List.append_nil, List.drop_eq_nil_of_le (by rw [List.length_map]; exact Nat.le_refl _)]
  have hsz : (⟨l.toArray⟩ : ByteArray).size = (digsN r).length + 1 + (digsN k).length + 1 := by
    show l.toArray.size = _
    rw [List.size_toArray, hlen]; omega
  unfold splitN
  rw [hsz, scanN_step l _ 0 0 0 _ c _ d0 hc, if_pos rfl]
  rw [scanN_digits l 0 _ (digsN k) _ 1 0 (fun _ => 0) _ (digsN_lt k) d1 (by omega) (by omega) rfl (by rw [accD_digs]; omega), accD_digs]
  rw [show (digsN r).length + 1 + (digsN k).length - (digsN k).length = (digsN r).length + 1 by omega]
  rw [scanN_dot l _ _ _ 0 _ _ d2 (by omega) (by omega)]
  rw [scanN_digits l 1 _ (digsN r) _ _ 0 _ _ (digsN_lt r) d3 (by omega) (by omega) (by unfold upd; rfl) (by rw [accD_digs]; omega), accD_digs]
  exact scanN_end l _ _ _ _ _ d4
theorem split_name3 (c : UInt8) (hc : c.toNat < 128) (k r q : Nat) (hk : k ≤ 1000000000) (hr : r ≤ 1000000000) (hq : q ≤ 1000000000) :
    splitN ⟨(name3 c k r q).toArray⟩ = (((c.toNat : Nat) : Int), upd (upd (upd (fun _ => 0) 0 (k : Nat)) 1 (r : Nat)) 2 (q : Nat)) := by
  obtain ⟨l, hl⟩ : ∃ l, l = name3 c k r q := ⟨_, rfl⟩
  rw [← hl]
  have hlen := congrArg List.length hl
  unfold name3 at hlen
  rw [List.length_cons, List.length_append, List.length_cons, List.length_map, List.length_append, List.length_cons, List.length_map, List.length_map] at hlen
  have d0 : l.drop 0 = c :: ((digsN k).map digB ++ 46 :: ((digsN r).map digB ++ 46 :: (digsN q).map digB)) := by rw [hl]; rfl
  have d1 : l.drop 1 = (digsN k).map digB ++ 46 :: ((digsN r).map digB ++ 46 :: (digsN q).map digB) := by rw [hl]; rfl
  have d2 : l.drop (1 + (digsN k).length) = 46 :: ((digsN r).map digB ++ 46 :: (digsN q).map digB) := by rw [← List.drop_drop, d1, List.drop_left' (by rw [List.length_map])]
  have d3 : l.drop (1 + (digsN k).length + 1) = (digsN r).map digB ++ 46 :: (digsN q).map digB := by rw [← List.drop_drop, d2]; rfl
  have d4 : l.drop (1 + (digsN k).length + 1 + (digsN r).length) = 46 :: (digsN q).map digB := by rw [← List.drop_drop, d3, List.drop_left' (by rw [List.length_map])]
  have d5 : l.drop (1 + (digsN k).length + 1 + (digsN r).length + 1) = (digsN q).map digB ++ [] := by rw [← List.drop_drop, d4, List.append_nil]; rfl
  have d6 : l.drop (1 + (digsN k).length + 1 + (digsN r).length + 1 + (digsN q).length) = [] := by rw [← List.drop_drop, d5, List.append_nil, List.drop_eq_nil_of_le (by rw [List.length_map]; exact Nat.le_refl _)]
  have hsz : (⟨l.toArray⟩ : ByteArray).size = (digsN q).length + 1 + (digsN r).length + 1 + (digsN k).length + 1 := by
    show l.toArray.size = _
    rw [List.size_toArray, hlen]; omega
  unfold splitN
  rw [hsz, scanN_step l _ 0 0 0 _ c _ d0 hc, if_pos rfl]
  rw [scanN_digits l 0 _ (digsN k) _ 1 0 (fun _ => 0) _ (digsN_lt k) d1 (by omega) (by omega) rfl (by rw [accD_digs]; omega), accD_digs]
  rw [show (digsN q).length + 1 + (digsN r).length + 1 + (digsN k).length - (digsN k).length = (digsN q).length + 1 + (digsN r).length + 1 by omega]
  rw [scanN_dot l _ _ _ 0 _ _ d2 (by omega) (by omega)]
  rw [scanN_digits l 1 _ (digsN r) _ _ 0 _ _ (digsN_lt r) d3 (by omega) (by omega) (by unfold upd; rfl) (by rw [accD_digs]; omega), accD_digs]
  rw [show (digsN q).length + 1 + (digsN r).length - (digsN r).length = (digsN q).length + 1 by omega]
  rw [scanN_dot l _ _ _ 1 _ _ d4 (by omega) (by omega)]
  rw [scanN_digits l 2 _ (digsN q) _ _ 0 _ _ (digsN_lt q) d5 (by omega) (by omega) (by unfold upd; rfl) (by rw [accD_digs]; omega), accD_digs]
  exact scanN_end l _ _ _ _ _ d6
/-- the name of a place, as bytes -/
def nameL (p : Int × Int × Int) : List UInt8 := if p.2.2 < 0 then name2 98 p.1.toNat p.2.1.toNat else name3 119 p.1.toNat p.2.1.toNat p.2.2.toNat
theorem nameP_eq (k r c : Int) : nameP smallD (k, r, c, true) = ⟨(nameL (k, r, c)).toArray⟩ := by
  unfold nameP nameL
  rw [if_neg (by simp)]
  dsimp only
  by_cases hc : c < 0
  · rw [if_pos hc, if_pos hc]
    unfold joinT numsP
    rw [if_pos hc]
    simp only [strL, List.map_cons, List.map_nil, Lib.join, List.intercalate, List.intersperse, List.flatten_cons, List.flatten_nil, smallD, dec_digs, List.append_nil]
    rw [show (⟨#[98]⟩ : ByteArray) = ⟨([98] : List UInt8).toArray⟩ from rfl, bytes_append]
    rfl
  · rw [if_neg hc, if_neg hc]
    unfold joinT numsP
    rw [if_neg hc]
    simp only [strL, List.map_cons, List.map_nil, Lib.join, List.intercalate, List.intersperse, List.flatten_cons, List.flatten_nil, smallD, dec_digs, List.append_nil]
    rw [show (⟨#[119]⟩ : ByteArray) = ⟨([119] : List UInt8).toArray⟩ from rfl, bytes_append]
    rfl
theorem nameP_none (D : Int → List UInt8) (k r c : Int) : nameP D (k, r, c, false) = ⟨#[]⟩ := if_pos rfl
theorem nameL_ne (p : Int × Int × Int) : nameL p ≠ [] := by
  unfold nameL name2 name3
  split <;> simp
end Go.Proofs.YtdnaildhcnekfaaDoor
