/-
  Parse inverts Format: the mathematics.
-/
import Derived.Test.YtogciehmdlfkfaaGreatDoorGM
namespace Go.Proofs.YtogciehmdlfkfaaGreatDoor
open Go.RowKit Nd
theorem cutAt_at {c : UInt8} (hc : isD c = false) (m : List UInt8) : ∀ l : List UInt8, l.all isD = true → cutAt (l ++ c :: m) c = some (l, m)
  | [], _ => by simp [cutAt]
  | b :: l, h => by
    simp only [List.all_cons, Bool.and_eq_true] at h
    have hb : b ≠ c := by rintro rfl; rw [h.1] at hc; cases hc
    rw [List.cons_append, cutAt, if_neg hb, cutAt_at hc m l h.2]
theorem cutAt_miss {c : UInt8} (hc : isD c = false) : ∀ l : List UInt8, l.all isD = true → cutAt l c = none
  | [], _ => rfl
  | b :: l, h => by
    simp only [List.all_cons, Bool.and_eq_true] at h
    have hb : b ≠ c := by rintro rfl; rw [h.1] at hc; cases hc
    rw [cutAt, if_neg hb, cutAt_miss hc l h.2]
theorem neg_body (l : List UInt8) : negP (45 :: l) = true ∧ bodyP (45 :: l) = l := by
  unfold negP bodyP Lib.trimPrefix Lib.hasPrefix
  simp [List.isPrefixOf]
theorem pos_body (c : UInt8) (l : List UInt8) (h : c ≠ 45) : negP (c :: l) = false ∧ bodyP (c :: l) = c :: l := by
  have h2 : (45 == c) = false := by simpa using fun e : 45 = c => h e.symm
  unfold negP bodyP Lib.trimPrefix Lib.hasPrefix
  simp [List.isPrefixOf, h2]
theorem decL_all (n : Nat) : (decL n).all isD = true := canD_all (decL_canD n)
theorem decL_cons (n : Nat) : ∃ c l, decL n = c :: l ∧ c ≠ 45 := by
  have h := decL_all n
  have h2 : decL n ≠ [] := by
    intro he
    have := decL_canD n
    rw [he] at this; simp [canD] at this
  cases hd : decL n with
  | nil => exact absurd hd h2
  | cons c l =>
    rw [hd] at h
    refine ⟨c, l, rfl, ?_⟩
    rintro rfl
    simp [isD] at h
theorem fmt_parts (q : Rat) : negP (fmtL q) = decide (q.num < 0) ∧ bodyP (fmtL q) = decL q.num.natAbs ++ (if q.den = 1 then [] else 47 :: decL q.den) := by
  unfold fmtL
  by_cases h : q.num < 0
  · rw [if_pos h]
    have := neg_body (decL q.num.natAbs ++ (if q.den = 1 then [] else 47 :: decL q.den))
    rw [List.cons_append, List.nil_append]
    exact ⟨by rw [this.1]; simp [h], this.2⟩
  · rw [if_neg h]
    obtain ⟨c, l, e, hc⟩ := decL_cons q.num.natAbs
    rw [List.nil_append, e, List.cons_append]
    have := pos_body c (l ++ (if q.den = 1 then [] else 47 :: decL q.den)) hc
    exact ⟨by rw [this.1]; simp [h], this.2⟩
theorem pE_dec {n : Nat} (h : (decL n).length ≤ 2000) : pE (decL n) = 0 := by
  unfold pE
  rw [if_pos (decL_canD n), if_neg (by omega)]
/-- Parse inverts Format. -/
theorem parse_fmt (q : Rat) (h1 : (decL q.num.natAbs).length ≤ 2000) (h2 : (decL q.den).length ≤ 2000) : parseP (fmtL q) = (0, q) := by
  obtain ⟨e1, e2⟩ := fmt_parts q
  unfold parseP
  rw [e1, e2]
  have s47 : isD 47 = false := by decide
  have s46 : isD 46 = false := by decide
  have hp := pE_dec h1
  by_cases hd : q.den = 1
  · rw [if_pos hd, List.append_nil, cutAt_miss s47 _ (decL_all _), cutAt_miss s46 _ (decL_all _)]
    have hE : quoE (decL q.num.natAbs) [49] = 0 := by
      unfold quoE
      rw [hp]
      decide
    have hQ : quoQ (decide (q.num < 0)) (decL q.num.natAbs) [49] = q := by
      unfold quoQ
      rw [if_pos hE, decL_dv]
      have := sq_self q
      rw [hd] at this
      exact this
    show (_, _) = (_, _)
    rw [hE, hQ]
  · rw [if_neg hd, cutAt_at s47 _ _ (decL_all _)]
    have hE : quoE (decL q.num.natAbs) (decL q.den) = 0 := by
      unfold quoE
      rw [hp, pE_dec h2, decL_dv]
      have : firstE 0 0 = 0 := by decide
      rw [this, if_neg (by simp), if_neg q.den_nz]
    have hQ : quoQ (decide (q.num < 0)) (decL q.num.natAbs) (decL q.den) = q := by
      unfold quoQ
      rw [if_pos hE, decL_dv, decL_dv]
      exact sq_self q
    show (_, _) = (_, _)
    rw [hE, hQ]
theorem bd_dec {q : Rat} {k : Nat} (h : Bd k q) (hk : 1 ≤ k) (h3 : 3 * k ≤ 2000) : (decL q.num.natAbs).length ≤ 2000 ∧ (decL q.den).length ≤ 2000 := by
  have h0 := pow256_10 k
  exact ⟨Nat.le_trans (decL_len (Nat.lt_of_lt_of_le h.1 h0) (by omega)) h3, Nat.le_trans (decL_len (Nat.lt_of_lt_of_le h.2 h0) (by omega)) h3⟩
end Go.Proofs.YtogciehmdlfkfaaGreatDoor
