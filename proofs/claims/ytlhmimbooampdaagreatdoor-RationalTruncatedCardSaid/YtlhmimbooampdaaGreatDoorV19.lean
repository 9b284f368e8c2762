/-
  What Decimal shows, read again: the mathematics.
-/
import Derived.Test.YtlhmimbooampdaaGreatDoorV17
import Derived.Test.YtlhmimbooampdaaGreatDoorV14
import Derived.Test.YtlhmimbooampdaaGreatDoorGM
namespace Go.Proofs.YtlhmimbooampdaaGreatDoor
open Go.RowKit Nd

theorem dv_rep : ∀ k : Nat, dv (List.replicate k 48) = 0
  | 0 => rfl
  | k + 1 => by rw [List.replicate_succ, dv_cons, dv_rep k]; rfl
theorem all_rep : ∀ k : Nat, (List.replicate k (48 : UInt8)).all isD = true
  | 0 => rfl
  | k + 1 => by rw [List.replicate_succ, List.all_cons, all_rep k]; rfl
theorem padL_dv (i : Nat) (T : List UInt8) : dv (padL i T) = dv T := by unfold padL; rw [dv_append, dv_rep]; simp
theorem padL_all (i : Nat) {T : List UInt8} (h : T.all isD = true) : (padL i T).all isD = true := by unfold padL; rw [List.all_append, all_rep, h]; rfl
theorem take_all {l : List UInt8} (h : l.all isD = true) (k : Nat) : (l.take k).all isD = true := by
  rw [List.all_eq_true] at h ⊢; exact fun x hx => h x (List.mem_of_mem_take hx)
theorem drop_all {l : List UInt8} (h : l.all isD = true) (k : Nat) : (l.drop k).all isD = true := by
  rw [List.all_eq_true] at h ⊢; exact fun x hx => h x (List.mem_of_mem_drop hx)
theorem canD_take {l : List UInt8} (h : canD l = true) (k : Nat) (hk : 1 ≤ k) (h2 : 2 ≤ l.length) : canD (l.take k) = true := by
  have hall := take_all (canD_all h) k
  cases l with
  | nil => simp at h2
  | cons c m =>
    obtain ⟨j, rfl⟩ : ∃ j, k = j + 1 := ⟨k - 1, by omega⟩
    have hm : ¬ m = [] := by rintro rfl; simp at h2
    unfold canD at h ⊢
    rw [hall]
    simp only [List.take_succ_cons, List.isEmpty_cons, List.head?_cons]
    simp at h
    rcases h.2 with h3 | h3
    · exact absurd h3 hm
    · simp [h3]
theorem pad_can {T : List UInt8} (h : canD T = true) (i : Nat) (hi : 0 < i) : canD ((padL i T).take ((padL i T).length - i)) = true := by
  have hp := pad_len i T
  by_cases hT : T.length ≤ i
  · have hl : (padL i T).length = i + 1 := by unfold padL; rw [List.length_append, List.length_replicate]; omega
    rw [hl, show i + 1 - i = 1 by omega]
    unfold padL
    obtain ⟨k, hk⟩ : ∃ k, i + 1 - T.length = k + 1 := ⟨i - T.length, by omega⟩
    rw [hk, List.replicate_succ]
    simp; decide
  · have he : padL i T = T := by unfold padL; rw [show i + 1 - T.length = 0 by omega]; rfl
    rw [he]
    exact canD_take h _ (by omega) (by omega)
theorem sq_sign (a : Bool) {n d : Nat} {c : Prop} [Decidable c] (hc : c ↔ (a = true ∧ n ≠ 0)) : sq (decide c) n d = sq a n d := by
  by_cases h0 : n = 0
  · subst h0; rw [sq_zero, sq_zero]
  · have : decide c = a := by
      cases a with
      | true => rw [decide_eq_true]; exact hc.2 ⟨rfl, h0⟩
      | false => rw [decide_eq_false]; exact fun h => by have := (hc.1 h).1; cases this
    rw [this]
/-- The number that Decimal shows. -/
def shown (q : Rat) (i : Nat) : Rat := sq (decide (q.num < 0)) (scaleQ q i) (10 ^ i)
theorem body_of (b : Prop) [Decidable b] {c : UInt8} {l : List UInt8} (h : c ≠ 45) : negP ((if b then [45] else []) ++ c :: l) = decide b ∧ bodyP ((if b then [45] else []) ++ c :: l) = c :: l := by
  by_cases hb : b
  · rw [if_pos hb]
    have := neg_body (c :: l)
    exact ⟨by rw [List.cons_append, List.nil_append, this.1]; simp [hb], this.2⟩
  · rw [if_neg hb]
    have := pos_body c l h
    exact ⟨by rw [List.nil_append, this.1]; simp [hb], this.2⟩
theorem parse_dec (q : Rat) (i : Nat) (hi : i ≤ 20) (hl : (decL (scaleQ q i)).length ≤ 1900) : parseP (decimalL q i) = (0, shown q i) := by
  obtain ⟨sc, hsc⟩ : ∃ sc, scaleQ q i = sc := ⟨_, rfl⟩
  have hs : sq (decide (q.num < 0 ∧ sc ≠ 0)) sc (10 ^ i) = shown q i := by
    unfold shown; rw [hsc]
    exact sq_sign _ (by simp)
  unfold decimalL
  rw [hsc] at hl ⊢
  have hc := decL_canD sc
  have hall := decL_all sc
  have hdv := decL_dv sc
  by_cases h0 : 0 < i
  · obtain ⟨P, hP⟩ : ∃ P, padL i (decL sc) = P := ⟨_, rfl⟩
    have h1 := pad_can hc i h0
    have h2 := padL_all i hall
    have h3 := padL_dv i (decL sc)
    have h4 := pad_len i (decL sc)
    have h5 : P.length ≤ 1921 := by rw [← hP]; unfold padL; rw [List.length_append, List.length_replicate]; omega
    rw [hP] at h1 h2 h3 h4 ⊢
    unfold pointL
    rw [if_pos h0]
    obtain ⟨a, ha⟩ : ∃ a, P.take (P.length - i) = a := ⟨_, rfl⟩
    obtain ⟨b, hb⟩ : ∃ b, P.drop (P.length - i) = b := ⟨_, rfl⟩
    have hab : a ++ b = P := by rw [← ha, ← hb, List.take_append_drop]
    have hbl : b.length = i := by rw [← hb, List.length_drop]; omega
    have hal : a.length ≤ 2000 := by rw [← ha, List.length_take]; omega
    have haD : a.all isD = true := by rw [← ha]; exact take_all h2 _
    have hbD : b.all isD = true := by rw [← hb]; exact drop_all h2 _
    rw [ha] at h1 ⊢
    rw [hb]
    have hsome : someD b = true := by
      unfold someD; rw [hbD]
      cases b with
      | nil => simp at hbl; omega
      | cons => rfl
    cases a with
    | nil => simp [canD] at h1
    | cons c l =>
      have hc45 : c ≠ 45 := by rintro rfl; simp [isD] at haD
      obtain ⟨g1, g2⟩ := body_of (q.num < 0 ∧ sc ≠ 0) (c := c) (l := l ++ 46 :: b) hc45
      rw [List.cons_append]
      have hcut : cutAt (bodyP ((if q.num < 0 ∧ sc ≠ 0 then [45] else []) ++ c :: (l ++ 46 :: b))) 46 = some (c :: l, b) := by
        rw [g2]; exact cutAt_at (by decide) b (c :: l) haD
      have := pp_dot_good hcut (c :: l).length (by rw [g2, ← List.cons_append, List.take_left']; rfl) (by rw [g2, ← List.cons_append, List.drop_append]; simp) (by rw [g2, ← List.cons_append]; simp) h1 hsome hal (by omega)
      rw [this, g1, hab, h3, hdv, hbl, hs]
  · obtain rfl : i = 0 := by omega
    have he : padL 0 (decL sc) = decL sc := by
      unfold padL
      obtain ⟨c, l, e, _⟩ := decL_cons sc
      rw [e]; simp
    have hpt : pointL 0 (decL sc) = decL sc := by unfold pointL; simp
    rw [he, hpt]
    obtain ⟨c, l, e, hc45⟩ := decL_cons sc
    obtain ⟨g1, g2⟩ := body_of (q.num < 0 ∧ sc ≠ 0) (c := c) (l := l) hc45
    rw [← e] at g1 g2
    have k1 : isD 47 = false := by decide
    have k2 : isD 46 = false := by decide
    rw [pp_int (by rw [g2]; exact cutAt_miss k1 _ hall) (by rw [g2]; exact cutAt_miss k2 _ hall), g1, g2]
    have := quo_good (decide (q.num < 0 ∧ sc ≠ 0)) hc (show canD [49] = true by decide) (by omega) (by decide) (show dv [49] ≠ 0 by decide)
    rw [this.1, this.2, hdv, show dv [49] = 10 ^ 0 by decide, hs]
theorem trunc_sub (q : Rat) (i : Nat) : ∃ x : Nat, x < q.den ∧ q - shown q i = sq (decide (q.num < 0)) x (q.den * 10 ^ i) := by
  have hd := q.den_nz
  have ht : (10 : Nat) ^ i ≠ 0 := Nat.ne_of_gt (Nat.pow_pos (by omega))
  have hdt := Nat.mul_ne_zero hd ht
  obtain ⟨a, ha⟩ : ∃ a, decide (q.num < 0) = a := ⟨_, rfl⟩
  have e := sq_self q
  obtain ⟨N, hN⟩ : ∃ N, q.num.natAbs = N := ⟨_, rfl⟩
  have hs : shown q i = sq a (N * 10 ^ i / q.den) (10 ^ i) := by unfold shown scaleQ; rw [ha, hN]
  rw [ha, hN] at e
  rw [ha, hs]
  refine ⟨N * 10 ^ i % q.den, Nat.mod_lt _ (Nat.pos_of_ne_zero hd), ?_⟩
  have e1 : q = sq a (N * 10 ^ i) (q.den * 10 ^ i) := by rw [sq_expand a _ _ ht]; exact e.symm
  have e2 : sq a (N * 10 ^ i / q.den) (10 ^ i) = sq a (q.den * (N * 10 ^ i / q.den)) (q.den * 10 ^ i) := (sq_mul hd).symm
  have e3 : q.den * (N * 10 ^ i / q.den) ≤ N * 10 ^ i := Nat.mul_div_le _ _
  have e4 := sum_ge a (!a) hdt (by cases a <;> simp) e3
  rw [e2, Rat.sub_eq_add_neg, sq_neg]
  refine (congrArg (· + sq (!a) (q.den * (N * 10 ^ i / q.den)) (q.den * 10 ^ i)) e1).trans (e4.trans ?_)
  congr 1
  have := Nat.div_add_mod (N * 10 ^ i) q.den
  omega
theorem trunc_neg {q : Rat} (h : q.num < 0) (i : Nat) : 0 ≤ -(q - shown q i) ∧ -(q - shown q i) < sq false 1 (10 ^ i) := by
  obtain ⟨x, hx, e⟩ := trunc_sub q i
  have ht : (10 : Nat) ^ i ≠ 0 := Nat.ne_of_gt (Nat.pow_pos (by omega))
  have hdt := Nat.mul_ne_zero q.den_nz ht
  rw [e, sq_neg, decide_eq_true h, Bool.not_true]
  refine ⟨sq_ge_zero hdt, ?_⟩
  rw [← sq_mul (neg := false) (n := 1) (d := 10 ^ i) q.den_nz, lt_sq hdt]
  simp; omega
theorem trunc_pos {q : Rat} (h : ¬ q.num < 0) (i : Nat) : 0 ≤ q - shown q i ∧ q - shown q i < sq false 1 (10 ^ i) := by
  obtain ⟨x, hx, e⟩ := trunc_sub q i
  have ht : (10 : Nat) ^ i ≠ 0 := Nat.ne_of_gt (Nat.pow_pos (by omega))
  have hdt := Nat.mul_ne_zero q.den_nz ht
  rw [e, decide_eq_false h]
  refine ⟨sq_ge_zero hdt, ?_⟩
  rw [← sq_mul (neg := false) (n := 1) (d := 10 ^ i) q.den_nz, lt_sq hdt]
  simp; omega
theorem unit_zero : ((1 : Int) : Rat) = sq false 1 (10 ^ 0) := by rw [Nat.pow_zero, sq_int]; rfl
theorem unit_step (i : Nat) : sq false 1 (10 ^ i) / ((10 : Int) : Rat) = sq false 1 (10 ^ (i + 1)) := by
  have h := sq_div false false (n := 1) (m := 10) (d := 10 ^ i) (e := 1) (by omega) (by omega)
  have h2 : sq false 10 1 = ((10 : Int) : Rat) := by rw [sq_int]; rfl
  rw [h2] at h
  rw [← h, Nat.pow_succ]; rfl
theorem scale_lt {q : Rat} {k i : Nat} (h : Bd k q) (hi : i ≤ 20) : scaleQ q i < 256 ^ (k + 21) := by
  unfold scaleQ
  exact Nat.lt_of_le_of_lt (Nat.div_le_self _ _) (mul_lt_pow h.1 (lt_pow_le (pow10_lt i) (by omega : i + 1 ≤ 21)))
theorem shown_bd {q : Rat} {k i : Nat} (h : Bd k q) (hi : i ≤ 20) : Bd (k + 21) (shown q i) :=
  Bd_sq (Nat.ne_of_gt (Nat.pow_pos (by omega))) (scale_lt h hi) (Nat.lt_of_lt_of_le (pow10_lt i) (Nat.pow_le_pow_right (by omega) (by omega)))
theorem scale_len {q : Rat} {k i : Nat} (h : Bd k q) (hi : i ≤ 20) (hk : k ≤ 500) : (decL (scaleQ q i)).length ≤ 1900 :=
  Nat.le_trans (decL_len (Nat.lt_of_lt_of_le (scale_lt h hi) (pow256_10 _)) (by omega)) (by omega)
theorem decimalL_len {q : Rat} {i : Nat} (hl : (decL (scaleQ q i)).length ≤ 1900) (hi : i ≤ 20) : (decimalL q i).length ≤ 2000 := by
  unfold decimalL
  obtain ⟨T, hT⟩ : ∃ T, decL (scaleQ q i) = T := ⟨_, rfl⟩
  rw [hT] at hl ⊢
  have h1 : (padL i T).length ≤ 1921 := by unfold padL; rw [List.length_append, List.length_replicate]; omega
  have h2 : (pointL i (padL i T)).length ≤ 1922 := by
    unfold pointL
    split
    · rw [List.length_append, List.length_cons, List.length_take, List.length_drop]; omega
    · omega
  rw [List.length_append]
  have h3 : ∀ b : Prop, [Decidable b] → (if b then [(45 : UInt8)] else []).length ≤ 1 := by intro b _; split <;> simp
  have := h3 (q.num < 0 ∧ scaleQ q i ≠ 0)
  omega
theorem clampP_nat {n : Nat} (h : n ≤ 20) : clampP (n : Int) = n := by unfold clampP; omega
theorem sg_nn {q : Rat} (h : 0 ≤ q) : sg q = 0 ∨ sg q = 1 := by
  unfold sg; rw [if_neg (by grind)]
  split
  · exact .inl rfl
  · exact .inr rfl
theorem sg_neg1 {q : Rat} (h : q.num < 0) : sg q = -1 := by unfold sg; rw [if_pos ((sq_num_nonneg q).1 h)]
theorem sg_nneg {q : Rat} (h : ¬ q.num < 0) : sg q = 0 ∨ sg q = 1 := sg_nn (by have := mt (sq_num_nonneg q).2 h; grind)

end Go.Proofs.YtlhmimbooampdaaGreatDoor
