/-
  The three forms of a number in a string: the mathematics.
-/
import Derived.Test.YtlhmimbooampdaaGreatDoorV19
namespace Go.Proofs.YtlhmimbooampdaaGreatDoor
open Go.RowKit Nd

theorem forms_body (a : Nat) (m : List UInt8) : negP (decL a ++ m) = false ∧ bodyP (decL a ++ m) = decL a ++ m := by
  obtain ⟨c, l, e, hc⟩ := decL_cons a
  rw [e, List.cons_append]
  exact pos_body c _ hc
theorem forms_quo (a b : Nat) (la : (decL a).length ≤ 2000) (lb : (decL b).length ≤ 2000) (h : b ≠ 0) : parseP (decL a ++ 47 :: decL b) = (0, sq false a b) := by
  obtain ⟨e1, e2⟩ := forms_body a (47 :: decL b)
  have hc : cutAt (bodyP (decL a ++ 47 :: decL b)) 47 = some (decL a, decL b) := by rw [e2]; exact cutAt_at (by decide) _ _ (decL_all a)
  obtain ⟨g1, g2⟩ := quo_good false (decL_canD a) (decL_canD b) la lb (by rw [decL_dv]; exact h)
  rw [pp_slash hc, e1, g1, g2, decL_dv, decL_dv]
theorem forms_zero (a : Nat) (la : (decL a).length ≤ 2000) : parseP (decL a ++ 47 :: decL 0) = (1, 0) := by
  obtain ⟨e1, e2⟩ := forms_body a (47 :: decL 0)
  have hc : cutAt (bodyP (decL a ++ 47 :: decL 0)) 47 = some (decL a, decL 0) := by rw [e2]; exact cutAt_at (by decide) _ _ (decL_all a)
  obtain ⟨g1, g2⟩ := quo_zero false (decL_canD a) (decL_canD 0) la (by decide) (by decide)
  rw [pp_slash hc, e1, g1, g2]
theorem decL_some (n : Nat) : someD (decL n) = true := by
  obtain ⟨c, l, e, _⟩ := decL_cons n
  have := decL_all n
  unfold someD
  rw [this, e]; rfl
theorem at_end {α : Type} (l : List α) (c : α) (m : List α) : l = (l ++ c :: m).take l.length ∧ m = (l ++ c :: m).drop (l.length + 1) ∧ (l ++ c :: m)[l.length]? = some c := by
  refine ⟨(List.take_left' rfl).symm, ?_, by simp⟩
  rw [List.drop_append]; simp
theorem forms_dot (a b : Nat) (la : (decL a).length ≤ 2000) (lb : (decL b).length ≤ 2000) : parseP (45 :: (decL a ++ 46 :: decL b)) = (0, sq true (b + 10 ^ (decL b).length * a) (10 ^ (decL b).length)) := by
  obtain ⟨e1, e2⟩ := neg_body (decL a ++ 46 :: decL b)
  obtain ⟨t1, t2, t3⟩ := at_end (decL a) (46 : UInt8) (decL b)
  have hc : cutAt (bodyP (45 :: (decL a ++ 46 :: decL b))) 46 = some (decL a, decL b) := by rw [e2]; exact cutAt_at (by decide) _ _ (decL_all a)
  rw [pp_dot_good hc (decL a).length (by rw [e2]; exact t1) (by rw [e2]; exact t2) (by rw [e2]; exact t3) (decL_canD a) (decL_some b) la lb, e1, dv_append, decL_dv, decL_dv]
theorem rep_some {n : Nat} (h : 0 < n) : someD (List.replicate n 48) = true := by
  obtain ⟨m, rfl⟩ : ∃ m, n = m + 1 := ⟨n - 1, by omega⟩
  unfold someD; rw [all_rep]; simp [List.replicate_succ]
theorem forms_ones {n : Nat} (h : 0 < n) (h2 : n ≤ 2000) : parseP (49 :: 46 :: List.replicate n 48) = (0, ((1 : Int) : Rat)) := by
  obtain ⟨e1, e2⟩ := pos_body 49 (46 :: List.replicate n 48) (by decide)
  have hc : cutAt (bodyP (49 :: 46 :: List.replicate n 48)) 46 = some ([49], List.replicate n 48) := by rw [e2]; rfl
  rw [pp_dot_good hc 1 (by rw [e2]; rfl) (by rw [e2]; rfl) (by rw [e2]; rfl) (by decide) (rep_some h) (by decide) (by simpa using h2), e1, dv_append, dv_rep, List.length_replicate]
  have e : dv [49] = 1 := by decide
  rw [e, Nat.zero_add]
  have h10 : (10 : Nat) ^ n ≠ 0 := Nat.ne_of_gt (Nat.pow_pos (by omega))
  have := sq_mul (neg := false) (n := 1) (d := 1) h10
  rw [Nat.mul_one] at this
  rw [Nat.mul_one, this, sq_int]
  rfl
theorem dE_long {l : List UInt8} (h : someD l = true) (hl : 2000 < l.length) : dE l = 2 := by
  unfold someD at h
  simp only [Bool.and_eq_true, Bool.not_eq_true'] at h
  unfold dE; rw [h.1, h.2]; simp [hl]
theorem forms_long {n : Nat} (h : 2000 < n) : parseP (49 :: 46 :: List.replicate n 48) = (2, 0) := by
  obtain ⟨e1, e2⟩ := pos_body 49 (46 :: List.replicate n 48) (by decide)
  have hc : cutAt (bodyP (49 :: 46 :: List.replicate n 48)) 46 = some ([49], List.replicate n 48) := by rw [e2]; rfl
  have h2 : decE [49] (List.replicate n 48) = 2 := by
    unfold decE; rw [dE_long (rep_some (by omega)) (by simpa using h), pE_good (by decide) (by decide)]
    simp [firstE]
  have h3 : decQ (negP (49 :: 46 :: List.replicate n 48)) [49] (List.replicate n 48) = 0 := by unfold decQ; rw [h2]; simp
  unfold parseP
  rcases first_cases (bodyP (49 :: 46 :: List.replicate n 48)) 47 with hf | ⟨m, hm, _⟩
  · rw [cutAt_free hf, hc]; simp [h2, h3]
  · exfalso
    rw [e2] at hm
    rcases m with _ | _ | m
    · simp at hm
    · simp at hm
    · simp [List.getElem?_replicate] at hm
theorem forms_times {a b : Nat} (h : b ≠ 0) : sq false a b * ((b : Int) : Rat) = ((a : Int) : Rat) := by
  have e1 : ((b : Int) : Rat) = sq false b 1 := by rw [sq_int]; rfl
  have e2 : ((a : Int) : Rat) = sq false a 1 := by rw [sq_int]; rfl
  rw [e1, e2, sq_prod, Nat.mul_one]
  have := sq_mul (neg := false) (n := a) (d := 1) h
  rw [Nat.mul_one] at this
  rw [Nat.mul_comm a b]; exact this
theorem forms_low (a b : Nat) {t : Nat} (h : t ≠ 0) : sq true (b + t * a) t ≤ 0 ∧ ((a : Int) : Rat) ≤ - sq true (b + t * a) t := by
  have e2 : ((a : Int) : Rat) = sq false (t * a) t := by
    have := sq_mul (neg := false) (n := a) (d := 1) h
    rw [Nat.mul_one] at this
    rw [this, sq_int]; rfl
  have e3 : - sq true (b + t * a) t = sq false (b + t * a) t := by rw [sq_neg]; rfl
  have e4 := sum_ge false true h (by decide) (show t * a ≤ b + t * a by omega)
  have e5 : sq true (t * a) t = - sq false (t * a) t := by rw [sq_neg]; rfl
  have g1 := sq_ge_zero (x := b + t * a) h
  have g2 := sq_ge_zero (x := b + t * a - t * a) h
  rw [← e4, e5] at g2
  rw [← e3] at g1 g2
  rw [e2]
  generalize sq true (b + t * a) t = u at *
  generalize sq false (t * a) t = v at *
  constructor <;> grind
theorem sg_np {q : Rat} (h : q ≤ 0) : sg q = 0 ∨ sg q = -1 := by
  unfold sg
  by_cases h1 : q < 0
  · exact .inr (if_pos h1)
  · rw [if_neg h1, if_pos (by grind)]; exact .inl rfl
theorem qo_ge {p q : Rat} (h : q ≤ p) : qo p q = 0 ∨ qo p q = 1 := by
  unfold qo; exact sg_nn (by grind)
theorem qo_self (p : Rat) : qo p p = 0 := by unfold qo; rw [show p - p = 0 by grind]; simp [sg]
theorem dec32 {a : Nat} (h : a < 4294967296) : (decL a).length ≤ 10 := decL_len (by omega) (by omega)
theorem bd32 {a b k : Nat} {neg : Bool} (h : b ≠ 0) (ha : a < 256 ^ k) (hb : b < 256 ^ k) : Bd k (sq neg a b) := Bd_sq h ha hb

end Go.Proofs.YtlhmimbooampdaaGreatDoor
