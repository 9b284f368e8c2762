/-
  Several parts put together: Math, Math2, Math3.
-/
/- Part Math. -/

namespace Nd

theorem getD_lt {α : Type} (l : List α) (d : α) {k : Nat} (h : k < l.length) : l.getD k d = l[k] := by simp [List.getD, h]
theorem getD_ge {α : Type} (l : List α) (d : α) {k : Nat} (h : l.length ≤ k) : l.getD k d = d := by simp [List.getD, h]
theorem dropLast_last {α : Type} : ∀ (l : List α) (h : l ≠ []), l.dropLast ++ [l.getLast h] = l
  | [], h => absurd rfl h
  | [_], _ => rfl
  | x :: y :: l, _ => by
    have := dropLast_last (y :: l) (by simp)
    simpa using this
theorem dropWhile_le {α : Type} (p : α → Bool) (l : List α) : (l.dropWhile p).length ≤ l.length := by
  induction l with
  | nil => simp
  | cons x l ih => simp only [List.dropWhile_cons]; split <;> simp <;> omega

/-- The number that digits (the least significant one first) have in base B. -/
def lv (B : Nat) : List Nat → Nat
  | [] => 0
  | x :: xs => x + B * lv B xs

def dig (B : Nat) (l : List Nat) : Prop := ∀ x ∈ l, x < B

theorem dig_nil (B : Nat) : dig B [] := fun _ h => by cases h
theorem dig_cons {B x : Nat} {l : List Nat} (hx : x < B) (h : dig B l) : dig B (x :: l) := by
  intro y hy
  rcases List.mem_cons.1 hy with rfl | hy
  · exact hx
  · exact h y hy
theorem dig_head {B x : Nat} {l : List Nat} (h : dig B (x :: l)) : x < B := h x List.mem_cons_self
theorem dig_tail {B x : Nat} {l : List Nat} (h : dig B (x :: l)) : dig B l := fun y hy => h y (List.mem_cons_of_mem _ hy)
theorem dig_append {B : Nat} {l m : List Nat} (h : dig B l) (k : dig B m) : dig B (l ++ m) := by
  intro y hy
  rcases List.mem_append.1 hy with hy | hy
  · exact h y hy
  · exact k y hy
theorem dig_left {B : Nat} {l m : List Nat} (h : dig B (l ++ m)) : dig B l := fun y hy => h y (List.mem_append_left _ hy)
theorem dig_right {B : Nat} {l m : List Nat} (h : dig B (l ++ m)) : dig B m := fun y hy => h y (List.mem_append_right _ hy)
theorem dig_take {B : Nat} {l : List Nat} (h : dig B l) (k : Nat) : dig B (l.take k) := fun y hy => h y (List.mem_of_mem_take hy)
theorem dig_drop {B : Nat} {l : List Nat} (h : dig B l) (k : Nat) : dig B (l.drop k) := fun y hy => h y (List.mem_of_mem_drop hy)
theorem dig_set {B : Nat} {l : List Nat} (h : dig B l) (k x : Nat) (hx : x < B) : dig B (l.set k x) := by
  intro y hy
  rcases List.mem_or_eq_of_mem_set hy with hy | rfl
  · exact h y hy
  · exact hx
theorem dig_getD {B : Nat} {l : List Nat} (hB : 0 < B) (h : dig B l) (k : Nat) : l.getD k 0 < B := by
  by_cases hk : k < l.length
  · rw [getD_lt _ _ hk]; exact h _ (List.getElem_mem hk)
  · rw [getD_ge _ _ (by omega)]; exact hB
theorem dig_replicate {B : Nat} (hB : 0 < B) (n : Nat) : dig B (List.replicate n 0) := by
  intro y hy
  rw [List.eq_of_mem_replicate hy]; exact hB

@[simp] theorem lv_nil (B : Nat) : lv B [] = 0 := rfl
@[simp] theorem lv_cons (B x : Nat) (l : List Nat) : lv B (x :: l) = x + B * lv B l := rfl

theorem lv_append (B : Nat) (l m : List Nat) : lv B (l ++ m) = lv B l + B ^ l.length * lv B m := by
  induction l with
  | nil => simp
  | cons x l ih =>
    simp only [List.cons_append, lv_cons, ih, List.length_cons, Nat.pow_succ, Nat.mul_add]
    rw [Nat.add_assoc, ← Nat.mul_assoc, Nat.mul_comm B (B ^ l.length)]

theorem lv_snoc (B : Nat) (l : List Nat) (x : Nat) : lv B (l ++ [x]) = lv B l + B ^ l.length * x := by
  rw [lv_append]; simp

theorem lv_lt {B : Nat} (hB : 0 < B) : ∀ l : List Nat, dig B l → lv B l < B ^ l.length
  | [], _ => by simp
  | x :: l, h => by
    have ih := lv_lt hB l (dig_tail h)
    have hx := dig_head h
    simp only [lv_cons, List.length_cons, Nat.pow_succ]
    calc x + B * lv B l < B + B * lv B l := by omega
      _ = B * (lv B l + 1) := by rw [Nat.mul_add]; omega
      _ ≤ B * B ^ l.length := Nat.mul_le_mul_left _ ih
      _ = B ^ l.length * B := Nat.mul_comm _ _

theorem lv_replicate (B n : Nat) : lv B (List.replicate n 0) = 0 := by
  induction n with
  | zero => rfl
  | succ n ih => simp [List.replicate_succ, ih]

theorem lv_take_drop (B : Nat) (l : List Nat) (k : Nat) (h : k ≤ l.length) : lv B l = lv B (l.take k) + B ^ k * lv B (l.drop k) := by
  conv => lhs; rw [← List.take_append_drop k l]
  rw [lv_append, List.length_take, Nat.min_eq_left h]

theorem lv_take_succ (B : Nat) (l : List Nat) (k : Nat) (h : k < l.length) : lv B (l.take (k + 1)) = lv B (l.take k) + B ^ k * l.getD k 0 := by
  rw [List.take_succ_eq_append_getElem h, lv_snoc, List.length_take, Nat.min_eq_left (by omega), getD_lt _ _ h]

theorem lv_drop (B : Nat) (l : List Nat) (k : Nat) (h : k < l.length) : lv B (l.drop k) = l.getD k 0 + B * lv B (l.drop (k + 1)) := by
  rw [List.drop_eq_getElem_cons h, lv_cons, getD_lt _ _ h]

theorem lv_inj {B : Nat} (hB : 0 < B) : ∀ l m : List Nat, dig B l → dig B m → l.length = m.length → lv B l = lv B m → l = m
  | [], [], _, _, _, _ => rfl
  | [], _ :: _, _, _, h, _ => by cases h
  | _ :: _, [], _, _, h, _ => by cases h
  | x :: l, y :: m, hl, hm, hlen, hv => by
    have hx := dig_head hl
    have hy := dig_head hm
    simp only [lv_cons] at hv
    have h1 : (x + B * lv B l) % B = (y + B * lv B m) % B := by rw [hv]
    rw [Nat.add_mul_mod_self_left, Nat.add_mul_mod_self_left, Nat.mod_eq_of_lt hx, Nat.mod_eq_of_lt hy] at h1
    subst h1
    have h2 : lv B l = lv B m := Nat.eq_of_mul_eq_mul_left hB (by omega)
    rw [lv_inj hB l m (dig_tail hl) (dig_tail hm) (by simpa using hlen) h2]

/-- No zero at the end. -/
def noz (l : List Nat) : Prop := l.getLast? ≠ some 0

theorem noz_nil : noz [] := by simp [noz]

theorem lv_ge {B : Nat} (l : List Nat) (h : noz l) (hne : l ≠ []) : B ^ (l.length - 1) ≤ lv B l := by
  obtain ⟨m, x, rfl⟩ : ∃ m x, l = m ++ [x] := ⟨l.dropLast, l.getLast hne, (dropLast_last l hne).symm⟩
  have hx : x ≠ 0 := by rintro rfl; simp [noz] at h
  rw [lv_snoc]; simp only [List.length_append, List.length_singleton, Nat.add_sub_cancel]
  calc B ^ m.length = B ^ m.length * 1 := by rw [Nat.mul_one]
    _ ≤ B ^ m.length * x := Nat.mul_le_mul_left _ (by omega)
    _ ≤ _ := Nat.le_add_left _ _

theorem lv_zero_iff {B : Nat} (hB : 0 < B) (l : List Nat) (h : noz l) : lv B l = 0 ↔ l = [] := by
  constructor
  · intro h0
    apply Classical.byContradiction
    intro hne
    have := lv_ge (B := B) l h hne
    have : 0 < B ^ (l.length - 1) := Nat.pow_pos hB
    omega
  · rintro rfl; rfl

theorem len_le_of_lv {B : Nat} (hB : 1 < B) (l m : List Nat) (hm : dig B m) (hl : noz l) (hv : lv B l ≤ lv B m) : l.length ≤ m.length := by
  by_cases hne : l = []
  · subst hne; simp
  · apply Classical.byContradiction
    intro hlt
    have h1 := lv_ge (B := B) l hl hne
    have h2 := lv_lt (by omega) m hm
    have h3 : B ^ m.length ≤ B ^ (l.length - 1) := Nat.pow_le_pow_right (by omega) (by omega)
    omega

theorem lv_canon {B : Nat} (hB : 1 < B) (l m : List Nat) (hl : dig B l) (hm : dig B m) (nl : noz l) (nm : noz m) (hv : lv B l = lv B m) : l = m :=
  lv_inj (by omega) l m hl hm (Nat.le_antisymm (len_le_of_lv hB l m hm nl (by omega)) (len_le_of_lv hB m l hl nm (by omega))) hv

/-- How many digits are left without the zeros at the end. -/
def tl : List Nat → Nat
  | [] => 0
  | x :: l => if tl l = 0 ∧ x = 0 then 0 else tl l + 1

theorem tl_le : ∀ l : List Nat, tl l ≤ l.length
  | [] => by simp [tl]
  | x :: l => by have := tl_le l; simp only [tl]; split <;> simp <;> omega

theorem tl_zero : ∀ (l : List Nat) (k : Nat), tl l ≤ k → l.getD k 0 = 0
  | [], _, _ => by simp
  | x :: l, k, h => by
    simp only [tl] at h
    split at h
    · rename_i hz
      cases k with
      | zero => simp [hz.2]
      | succ k => have := tl_zero l k (by omega); simpa using this
    · cases k with
      | zero => omega
      | succ k => have := tl_zero l k (by omega); simpa using this

theorem tl_last : ∀ (l : List Nat), 0 < tl l → l.getD (tl l - 1) 0 ≠ 0
  | [], h => by simp [tl] at h
  | x :: l, h => by
    simp only [tl] at h ⊢
    split at h
    · omega
    · rename_i hz
      rw [if_neg hz]
      simp only [Nat.add_sub_cancel]
      by_cases h0 : tl l = 0
      · rw [h0]; simp; intro hx; exact hz ⟨h0, hx⟩
      · have := tl_last l (by omega)
        obtain ⟨j, hj⟩ : ∃ j, tl l = j + 1 := ⟨tl l - 1, by omega⟩
        rw [hj] at this ⊢; simpa using this

theorem tl_of (l : List Nat) (k : Nat) (hz : ∀ j, k ≤ j → l.getD j 0 = 0) (hl : 0 < k → l.getD (k - 1) 0 ≠ 0) : tl l = k := by
  rcases Nat.lt_trichotomy (tl l) k with h | h | h
  · exact absurd (tl_zero l (k - 1) (by omega)) (hl (by omega))
  · exact h
  · exact absurd (hz (tl l - 1) (by omega)) (tl_last l (by omega))

/-- Without the zeros at the end. -/
def trim (l : List Nat) : List Nat := l.take (tl l)

theorem trim_length (l : List Nat) : (trim l).length = tl l := by rw [trim, List.length_take, Nat.min_eq_left (tl_le l)]

theorem trim_noz (l : List Nat) : noz (trim l) := by
  unfold noz
  rw [List.getLast?_eq_getElem?, trim_length]
  by_cases h : tl l = 0
  · rw [trim, h]; simp
  · have hl := tl_last l (by omega)
    have hle := tl_le l
    rw [trim, List.getElem?_take, if_pos (by omega)]
    rw [List.getD_eq_getElem?_getD] at hl
    intro he; rw [he] at hl; simp at hl

theorem trim_dig {B : Nat} {l : List Nat} (h : dig B l) : dig B (trim l) := dig_take h _

theorem lv_zeros (B : Nat) : ∀ l : List Nat, (∀ k, l.getD k 0 = 0) → lv B l = 0
  | [], _ => rfl
  | x :: l, h => by
    have h0 := h 0
    simp at h0
    rw [lv_cons, lv_zeros B l (fun k => by simpa using h (k + 1)), h0]; simp

theorem lv_trim (B : Nat) (l : List Nat) : lv B (trim l) = lv B l := by
  rw [trim, lv_take_drop B l (tl l) (tl_le l), lv_zeros B (l.drop (tl l)), Nat.mul_zero, Nat.add_zero]
  intro k
  have := tl_zero l (tl l + k) (by omega)
  simpa [List.getD_eq_getElem?_getD] using this

theorem trim_of_noz (l : List Nat) (h : noz l) : tl l = l.length := by
  refine tl_of l l.length (fun j hj => by rw [getD_ge _ _ hj]) (fun hp => ?_)
  unfold noz at h
  rw [List.getLast?_eq_getElem?] at h
  rw [List.getD_eq_getElem?_getD]
  rw [List.getElem?_eq_getElem (by omega)] at h ⊢
  simpa using h

/-! ### bytes, the most significant one first -/

/-- The number that bytes represent. -/
def bv (l : List UInt8) : Nat := lv 256 (l.reverse.map UInt8.toNat)

@[simp] theorem bv_nil : bv [] = 0 := rfl
theorem dig_bytes (l : List UInt8) : dig 256 (l.map UInt8.toNat) := by
  intro x hx
  obtain ⟨u, _, rfl⟩ := List.mem_map.1 hx
  exact u.toNat_lt
theorem bv_append (l m : List UInt8) : bv (l ++ m) = bv m + 256 ^ m.length * bv l := by
  unfold bv; rw [List.reverse_append, List.map_append, lv_append]; simp
theorem bv_cons (x : UInt8) (l : List UInt8) : bv (x :: l) = bv l + 256 ^ l.length * x.toNat := by
  have := bv_append [x] l
  simpa [bv] using this
theorem bv_snoc (l : List UInt8) (x : UInt8) : bv (l ++ [x]) = x.toNat + 256 * bv l := by
  rw [bv_append]; simp [bv]
theorem bv_lt (l : List UInt8) : bv l < 256 ^ l.length := by
  have := lv_lt (B := 256) (by omega) _ (dig_bytes l.reverse)
  simpa [bv] using this

/-- No leading zero byte. -/
def nolead (l : List UInt8) : Prop := l.head? ≠ some 0

theorem nolead_nil : nolead [] := by simp [nolead]

theorem bv_inj (l m : List UInt8) (hl : nolead l) (hm : nolead m) (h : bv l = bv m) : l = m := by
  have key : ∀ k : List UInt8, nolead k → noz (k.reverse.map UInt8.toNat) := by
    intro k hk
    cases k with
    | nil => simp [noz]
    | cons x k =>
      simp only [nolead, List.head?_cons] at hk
      simp only [noz, List.reverse_cons, List.map_append, List.map_cons, List.map_nil, List.getLast?_append, List.getLast?_singleton]
      simp
      intro h0; apply hk; rw [show x = 0 from UInt8.toNat_inj.1 (by simpa using h0)]
  have h1 := lv_canon (B := 256) (by omega) _ _ (dig_bytes l.reverse) (dig_bytes m.reverse) (key l hl) (key m hm) h
  have h2 : l.reverse = m.reverse := by
    apply List.map_inj_right (f := UInt8.toNat) (fun _ _ h => UInt8.toNat_inj.1 h) |>.1 h1
  exact List.reverse_inj.1 h2

/-- Without leading zero bytes. -/
def nrm (l : List UInt8) : List UInt8 := l.dropWhile (· == 0)

theorem nrm_nolead (l : List UInt8) : nolead (nrm l) := by
  unfold nolead nrm
  induction l with
  | nil => simp
  | cons x l ih =>
    by_cases hx : x = 0
    · simp [hx]; simpa using ih
    · simp [hx]
theorem bv_nrm (l : List UInt8) : bv (nrm l) = bv l := by
  unfold nrm
  induction l with
  | nil => simp
  | cons x l ih =>
    by_cases hx : x = 0
    · simp [hx, bv_cons]; simpa using ih
    · simp [hx]
theorem nrm_of_nolead (l : List UInt8) (h : nolead l) : nrm l = l := by
  unfold nrm nolead at *
  cases l with
  | nil => simp
  | cons x l => simp at h; simp [h]
theorem bv_zero_iff (l : List UInt8) (h : nolead l) : bv l = 0 ↔ l = [] := by
  constructor
  · intro h0; exact bv_inj l [] h nolead_nil (by simpa using h0)
  · rintro rfl; rfl
theorem nrm_zero_iff (l : List UInt8) : nrm l = [] ↔ bv l = 0 := by
  rw [← bv_nrm l]; exact (bv_zero_iff _ (nrm_nolead l)).symm
theorem nrm_drop (l : List UInt8) (k : Nat) (hz : ∀ j, j < k → l[j]? = some 0) (hk : l[k]? ≠ some 0) : nrm l = l.drop k := by
  unfold nrm
  induction k generalizing l with
  | zero =>
    cases l with
    | nil => simp
    | cons x l => simp at hk; simp [hk]
  | succ k ih =>
    cases l with
    | nil => simp
    | cons x l =>
      have h0 := hz 0 (by omega)
      simp at h0
      simp [h0]
      exact ih l (fun j hj => by have := hz (j + 1) (by omega); simpa using this) (by simpa using hk)
theorem nrm_length_le (l : List UInt8) : (nrm l).length ≤ l.length := by
  unfold nrm; exact dropWhile_le _ _

/-! ### order -/
theorem bv_len_lt (l m : List UInt8) (hm : nolead m) (h : l.length < m.length) : bv l < bv m := by
  have h1 := bv_lt l
  have hne : m ≠ [] := by rintro rfl; simp at h
  obtain ⟨x, k, rfl⟩ : ∃ x k, m = x :: k := by cases m with | nil => exact absurd rfl hne | cons x k => exact ⟨x, k, rfl⟩
  rw [bv_cons]
  have hx : x.toNat ≠ 0 := by
    intro h0; simp only [nolead, List.head?_cons] at hm; exact hm (by rw [show x = 0 from UInt8.toNat_inj.1 (by simpa using h0)])
  simp at h
  have h2 : 256 ^ l.length ≤ 256 ^ k.length := Nat.pow_le_pow_right (by omega) (by omega)
  have h3 : 256 ^ k.length * 1 ≤ 256 ^ k.length * x.toNat := Nat.mul_le_mul_left _ (by omega)
  omega

theorem lv_take_step (B : Nat) (l : List Nat) (k : Nat) : lv B (l.take (k + 1)) = lv B (l.take k) + B ^ k * l.getD k 0 := by
  by_cases h : k < l.length
  · exact lv_take_succ B l k h
  · rw [List.take_of_length_le (by omega), List.take_of_length_le (by omega), getD_ge _ _ (by omega)]; simp
theorem lv_take_all (B : Nat) (l : List Nat) (k : Nat) (h : l.length ≤ k) : lv B (l.take k) = lv B l := by rw [List.take_of_length_le h]

/-- The bytes of a string as digits, the least significant one first. -/
def rb (l : List UInt8) : List Nat := l.reverse.map UInt8.toNat
theorem rb_length (l : List UInt8) : (rb l).length = l.length := by simp [rb]
theorem rb_dig (l : List UInt8) : dig 256 (rb l) := dig_bytes _
theorem lv_rb (l : List UInt8) : lv 256 (rb l) = bv l := rfl
theorem rb_getD (l : List UInt8) (k : Nat) (h : k < l.length) : (rb l).getD k 0 = (l[l.length - 1 - k]'(by omega)).toNat := by
  rw [getD_lt _ _ (by rw [rb_length]; exact h)]
  simp [rb]

/-- Bytes out of numbers. -/
def ofNums (xs : List Nat) : List UInt8 := xs.map UInt8.ofNat
theorem bv_ofNums (xs : List Nat) (h : dig 256 xs) : bv (ofNums xs) = lv 256 xs.reverse := by
  unfold bv ofNums
  congr 1
  rw [← List.map_reverse, List.map_map]
  have : ∀ l : List Nat, dig 256 l → l.map (UInt8.toNat ∘ UInt8.ofNat) = l := by
    intro l hl
    induction l with
    | nil => rfl
    | cons x l ih => 
      rw [List.map_cons, ih (dig_tail hl)]
      congr 1
      simp only [Function.comp]
      rw [UInt8.toNat_ofNat_of_lt' (by have := dig_head hl; simpa [UInt8.size] using this)]
  exact this _ (fun y hy => h y (by simpa using hy))

/-- s represents the number n, without leading zero bytes. -/
def isN (l : List UInt8) (n : Nat) : Prop := bv l = n ∧ nolead l
theorem isN_unique {l m : List UInt8} {n : Nat} (h : isN l n) (k : isN m n) : l = m := bv_inj l m h.2 k.2 (h.1.trans k.1.symm)
theorem isN_nrm (l : List UInt8) : isN (nrm l) (bv l) := ⟨bv_nrm l, nrm_nolead l⟩
theorem isN_length {l : List UInt8} {n : Nat} (h : isN l n) (k : Nat) (hn : n < 256 ^ k) : l.length ≤ k := by
  apply Classical.byContradiction
  intro hk
  have hlt : (List.replicate k (0 : UInt8)).length < l.length := by simp; omega
  obtain ⟨m, hm⟩ : ∃ m : List UInt8, m.length = k ∧ bv m = 256 ^ k - 1 := by
    refine ⟨List.replicate k 255, by simp, ?_⟩
    induction k with
    | zero => rfl
    | succ k ih =>
      rw [List.replicate_succ, bv_cons]
      have h1 : bv (List.replicate k 255) = 256 ^ k - 1 := by
        clear ih hn hk hlt
        induction k with
        | zero => rfl
        | succ k ih => rw [List.replicate_succ, bv_cons, ih]; simp; have : 0 < 256 ^ k := Nat.pow_pos (by omega); rw [Nat.pow_succ]; omega
      rw [h1]; simp; have : 0 < 256 ^ k := Nat.pow_pos (by omega); rw [Nat.pow_succ]; omega
  have := bv_len_lt m l h.2 (by omega)
  rw [hm.2, h.1] at this
  omega

/-! ### addition, digit by digit -/
theorem add_step (B k S c x y d c' a : Nat) (h : S + B ^ k * c = a) (hd : x + y + c = d + B * c') : S + B ^ k * d + B ^ (k + 1) * c' = a + B ^ k * x + B ^ k * y := by
  rw [Nat.pow_succ, Nat.mul_assoc, ← h]
  have : B ^ k * (x + y + c) = B ^ k * (d + B * c') := by rw [hd]
  rw [Nat.mul_add, Nat.mul_add, Nat.mul_add] at this
  omega

/-- The order of two numbers, as -1, 0 or 1. -/
def ord (x y : Nat) : Int := if x < y then -1 else if y < x then 1 else 0
theorem ord_lt {x y : Nat} (h : x < y) : ord x y = -1 := by simp [ord, h]
theorem ord_gt {x y : Nat} (h : y < x) : ord x y = 1 := by simp [ord, h, show ¬ x < y by omega]
theorem ord_eq {x y : Nat} (h : x = y) : ord x y = 0 := by simp [ord, h]
theorem ord_shift (P x y a b : Nat) (ha : a < P) (_hb : b < P) (h : x < y) : ord (a + P * x) (b + P * y) = -1 := by
  apply ord_lt
  have : P * (x + 1) ≤ P * y := Nat.mul_le_mul_left _ h
  rw [Nat.mul_add] at this
  omega
theorem ord_shift' (P x y a b : Nat) (_ha : a < P) (hb : b < P) (h : y < x) : ord (a + P * x) (b + P * y) = 1 := by
  apply ord_gt
  have : P * (y + 1) ≤ P * x := Nat.mul_le_mul_left _ h
  rw [Nat.mul_add] at this
  omega
theorem ord_same (P x a b : Nat) : ord (a + P * x) (b + P * x) = ord a b := by
  unfold ord
  have h1 : (a + P * x < b + P * x) ↔ a < b := by omega
  have h2 : (b + P * x < a + P * x) ↔ b < a := by omega
  simp only [h1, h2]

/-! ### subtraction, digit by digit -/
theorem sub_step (B k S e x y d e' a b : Nat) (h : S + b = a + B ^ k * e) (hd : d + y + e = x + B * e') : S + B ^ k * d + (b + B ^ k * y) = a + B ^ k * x + B ^ (k + 1) * e' := by
  rw [Nat.pow_succ, Nat.mul_assoc]
  have : B ^ k * (d + y + e) = B ^ k * (x + B * e') := by rw [hd]
  rw [Nat.mul_add, Nat.mul_add, Nat.mul_add] at this
  omega

/-! ### digits in base 2^32 and bytes -/
/-- The four bytes of each digit, the least significant one first. -/
def bytesOf : List Nat → List Nat
  | [] => []
  | x :: l => x % 256 :: x / 256 % 256 :: x / 65536 % 256 :: x / 16777216 % 256 :: bytesOf l
theorem bytesOf_length : ∀ l : List Nat, (bytesOf l).length = 4 * l.length
  | [] => rfl
  | x :: l => by simp only [bytesOf, List.length_cons, bytesOf_length l]; omega
theorem bytesOf_dig : ∀ l : List Nat, dig 256 (bytesOf l)
  | [] => dig_nil _
  | x :: l => dig_cons (Nat.mod_lt _ (by omega)) (dig_cons (Nat.mod_lt _ (by omega)) (dig_cons (Nat.mod_lt _ (by omega)) (dig_cons (Nat.mod_lt _ (by omega)) (bytesOf_dig l))))
theorem lv_bytesOf : ∀ l : List Nat, dig 4294967296 l → lv 256 (bytesOf l) = lv 4294967296 l
  | [], _ => rfl
  | x :: l, h => by
    have hx := dig_head h
    simp only [bytesOf, lv_cons, lv_bytesOf l (dig_tail h)]
    omega
theorem bytesOf_get : ∀ (l : List Nat) (q r : Nat), r < 4 → (bytesOf l).getD (4 * q + r) 0 = l.getD q 0 / 256 ^ r % 256
  | [], q, r, h => by simp [bytesOf]
  | x :: l, 0, r, h => by
    match r, h with
    | 0, _ => simp [bytesOf]
    | 1, _ => simp [bytesOf]
    | 2, _ => simp [bytesOf]
    | 3, _ => simp [bytesOf]
  | x :: l, q + 1, r, h => by
    have := bytesOf_get l q r h
    rw [show 4 * (q + 1) + r = 4 * q + r + 1 + 1 + 1 + 1 by omega]
    simpa [bytesOf] using this

theorem take_snoc {α : Type} (l : List α) (d : α) (k : Nat) (h : k < l.length) : l.take (k + 1) = l.take k ++ [l.getD k d] := by
  rw [List.take_succ_eq_append_getElem h, getD_lt _ _ h]

/-- A place at the end of what is still zero. -/
theorem fill_back {D : List Nat} {n k : Nat} (hk : k < n) (d : Nat) :
    (List.replicate (n - k) 0 ++ D.reverse).set (n - 1 - k) d = List.replicate (n - (k + 1)) 0 ++ (D ++ [d]).reverse := by
  obtain ⟨m, hm⟩ : ∃ m, n - k = m + 1 := ⟨n - k - 1, by omega⟩
  have e1 : n - 1 - k = m := by omega
  have e2 : n - (k + 1) = m := by omega
  rw [hm, e1, e2, List.replicate_succ', List.append_assoc, List.set_append_right _ _ (by simp)]
  simp

theorem lv_set (B : Nat) : ∀ (l : List Nat) (q y : Nat), q < l.length → lv B (l.set q y) + B ^ q * l.getD q 0 = lv B l + B ^ q * y
  | [], _, _, h => by simp at h
  | x :: l, 0, y, _ => by simp; omega
  | x :: l, q + 1, y, h => by
    have ih := lv_set B l q y (by simpa using h)
    have e : ∀ z, B ^ (q + 1) * z = B * (B ^ q * z) := fun z => by rw [Nat.pow_succ, Nat.mul_comm (B ^ q) B, Nat.mul_assoc]
    have h1 : (x :: l).getD (q + 1) 0 = l.getD q 0 := by simp
    rw [List.set_cons_succ, lv_cons, lv_cons, h1, e, e]
    have := congrArg (fun z => B * z) ih
    simp only [Nat.mul_add] at this
    omega
theorem lv_set_add (B : Nat) (l : List Nat) (q d : Nat) (h : q < l.length) : lv B (l.set q (l.getD q 0 + d)) = lv B l + B ^ q * d := by
  have := lv_set B l q (l.getD q 0 + d) h
  rw [Nat.mul_add] at this
  omega
theorem noz_of_ge {B : Nat} (hB : 0 < B) (l : List Nat) (h : dig B l) (hge : l ≠ [] → B ^ (l.length - 1) ≤ lv B l) : noz l := by
  intro hl
  have hne : l ≠ [] := by rintro rfl; simp at hl
  obtain ⟨m, x, rfl⟩ : ∃ m x, l = m ++ [x] := ⟨l.dropLast, l.getLast hne, (dropLast_last l hne).symm⟩
  simp at hl
  subst hl
  have h1 := hge hne
  have h2 := lv_lt hB m (dig_left h)
  rw [lv_snoc] at h1
  simp at h1
  omega
theorem bv_ge (l : List UInt8) (h : nolead l) (hne : l ≠ []) : 256 ^ (l.length - 1) ≤ bv l := by
  obtain ⟨x, k, rfl⟩ : ∃ x k, l = x :: k := by cases l with | nil => exact absurd rfl hne | cons x k => exact ⟨x, k, rfl⟩
  rw [bv_cons]
  have hx : x.toNat ≠ 0 := by
    intro h0; simp only [nolead, List.head?_cons] at h; exact h (by rw [show x = 0 from UInt8.toNat_inj.1 (by simpa using h0)])
  have h3 : 256 ^ k.length * 1 ≤ 256 ^ k.length * x.toNat := Nat.mul_le_mul_left _ (by omega)
  simp
  omega

/-- Bytes are packed into digits in base 2^32: k bytes are done. -/
structure Pack (bs : List Nat) (n k : Nat) (L : List Nat) : Prop where
  len : L.length = n
  digs : dig 4294967296 L
  low : ∀ j, L.getD j 0 < 256 ^ (k - 4 * j)
  value : lv 4294967296 L = lv 256 (bs.take k)
theorem Pack.start (bs : List Nat) (n : Nat) : Pack bs n 0 (List.replicate n 0) :=
  ⟨by simp, dig_replicate (by omega) n, fun j => by
    have : (List.replicate n 0).getD j 0 = 0 := by
      by_cases h : j < n
      · rw [getD_lt _ _ (by simpa using h)]; simp
      · rw [getD_ge _ _ (by simp; omega)]
    rw [this]; exact Nat.pow_pos (by omega), by simp [lv_replicate]⟩
theorem Pack.step {bs : List Nat} {n k b : Nat} {L : List Nat} (h : Pack bs n k L) (hb : b < 256) (hk : k < 4 * n) (hbs : bs.getD k 0 = b) :
    L.getD (k / 4) 0 < 256 ^ (k % 4) ∧ Pack bs n (k + 1) (L.set (k / 4) (L.getD (k / 4) 0 + b * 256 ^ (k % 4))) := by
  have hlow := h.low (k / 4)
  rw [show k - 4 * (k / 4) = k % 4 by omega] at hlow
  have hq : k / 4 < L.length := by rw [h.len]; omega
  refine ⟨hlow, ⟨by simpa using h.len, ?_, ?_, ?_⟩⟩
  · refine dig_set h.digs _ _ ?_
    have h1 : b * 256 ^ (k % 4) ≤ 255 * 256 ^ (k % 4) := Nat.mul_le_mul_right _ (by omega)
    have h2 : 256 ^ (k % 4) ≤ 256 ^ 3 := Nat.pow_le_pow_right (by omega) (by omega)
    have h3 : (256 : Nat) ^ 3 = 16777216 := by decide
    omega
  · intro j
    by_cases hj : j = k / 4
    · subst hj
      rw [getD_lt _ _ (by simpa using hq), List.getElem_set_self, show k + 1 - 4 * (k / 4) = k % 4 + 1 by omega, Nat.pow_succ]
      have h1 : b * 256 ^ (k % 4) ≤ 255 * 256 ^ (k % 4) := Nat.mul_le_mul_right _ (by omega)
      omega
    · have : (L.set (k / 4) (L.getD (k / 4) 0 + b * 256 ^ (k % 4))).getD j 0 = L.getD j 0 := by
        simp only [List.getD_eq_getElem?_getD, List.getElem?_set_ne (Ne.symm hj)]
      rw [this]
      refine Nat.lt_of_lt_of_le (h.low j) (Nat.pow_le_pow_right (by omega) (by omega))
  · rw [lv_set_add _ _ _ _ hq, h.value, lv_take_step, hbs]
    have : (4294967296 : Nat) ^ (k / 4) * (b * 256 ^ (k % 4)) = 256 ^ k * b := by
      rw [show (4294967296 : Nat) = 256 ^ 4 from by decide, ← Nat.pow_mul, Nat.mul_comm b, ← Nat.mul_assoc, ← Nat.pow_add, show 4 * (k / 4) + k % 4 = k by omega]
    rw [this]
theorem Pack.noz {bs : List Nat} {n : Nat} {L : List Nat} (h : Pack bs n bs.length L) (hn : n = (bs.length + 3) / 4) (hge : bs ≠ [] → 256 ^ (bs.length - 1) ≤ lv 256 bs) : noz L := by
  refine noz_of_ge (B := 4294967296) (by omega) L h.digs (fun hne => ?_)
  have hl : 0 < L.length := by cases L with | nil => exact absurd rfl hne | cons => simp
  rw [h.len] at hl
  have hb : bs ≠ [] := by rintro rfl; simp at hn; omega
  rw [h.value, List.take_of_length_le (Nat.le_refl _), h.len, show (4294967296 : Nat) = 256 ^ 4 from by decide, ← Nat.pow_mul]
  exact Nat.le_trans (Nat.pow_le_pow_right (by omega) (by omega)) (hge hb)

theorem getD_set_ne {l : List Nat} {q j y : Nat} (h : j ≠ q) : (l.set q y).getD j 0 = l.getD j 0 := by
  simp only [List.getD_eq_getElem?_getD, List.getElem?_set_ne (Ne.symm h)]
theorem getD_set_eq {l : List Nat} {q y : Nat} (h : q < l.length) : (l.set q y).getD q 0 = y := by
  rw [getD_lt _ _ (by simpa using h), List.getElem_set_self]

/-! ### the product: after i digits of A, and j digits of C for the digit x of A -/
/-- The rows of A below i are added; the digits from i + m on are still zero. -/
structure Prod (A C : List Nat) (n i : Nat) (L : List Nat) : Prop where
  len : L.length = n
  digs : dig 4294967296 L
  high : ∀ t, i + C.length ≤ t → L.getD t 0 = 0
  value : lv 4294967296 L = lv 4294967296 (A.take i) * lv 4294967296 C
structure ProdIn (A C : List Nat) (n i j c x : Nat) (L : List Nat) : Prop where
  len : L.length = n
  digs : dig 4294967296 L
  high : ∀ t, i + C.length ≤ t → L.getD t 0 = 0
  carry : c < 4294967296
  value : lv 4294967296 L + 4294967296 ^ (i + j) * c = lv 4294967296 (A.take i) * lv 4294967296 C + 4294967296 ^ i * (x * lv 4294967296 (C.take j))
theorem Prod.start (A C : List Nat) (n : Nat) : Prod A C n 0 (List.replicate n 0) :=
  ⟨by simp, dig_replicate (by omega) n, fun t _ => by
    by_cases h : t < n
    · rw [getD_lt _ _ (by simpa using h)]; simp
    · rw [getD_ge _ _ (by simp; omega)], by simp [lv_replicate]⟩
theorem Prod.into {A C L : List Nat} {n i : Nat} (h : Prod A C n i L) (x : Nat) : ProdIn A C n i 0 0 x L :=
  ⟨h.len, h.digs, h.high, by omega, by simp [h.value]⟩
theorem ProdIn.step {A C L : List Nat} {n i j c x y : Nat} (h : ProdIn A C n i j c x L) (hx : x < 4294967296) (hy : C.getD j 0 = y) (hj : j < C.length) (hn : i + C.length ≤ n) (hC : dig 4294967296 C) :
    c + (x * y + L.getD (i + j) 0) ≤ 18446744073709551615 ∧
    ProdIn A C n i (j + 1) ((c + (x * y + L.getD (i + j) 0)) / 4294967296) x (L.set (i + j) ((c + (x * y + L.getD (i + j) 0)) % 4294967296)) := by
  have hq : i + j < L.length := by rw [h.len]; omega
  have hl := dig_getD (by omega) h.digs (i + j)
  have hy2 : y < 4294967296 := by rw [← hy]; exact dig_getD (by omega) hC j
  have hxy : x * y ≤ 4294967295 * 4294967295 := Nat.mul_le_mul (by omega) (by omega)
  have hc := h.carry
  refine ⟨by omega, ⟨by simpa using h.len, dig_set h.digs _ _ (Nat.mod_lt _ (by omega)), ?_, by omega, ?_⟩⟩
  · intro t ht
    rw [getD_set_ne (by omega)]
    exact h.high t ht
  · have h1 := lv_set 4294967296 L (i + j) ((c + (x * y + L.getD (i + j) 0)) % 4294967296) hq
    have h2 := h.value
    generalize hT : c + (x * y + L.getD (i + j) 0) = T at *
    have h3 : 4294967296 ^ (i + j) * T = 4294967296 ^ (i + j) * (T % 4294967296) + 4294967296 ^ (i + (j + 1)) * (T / 4294967296) := by
      rw [show i + (j + 1) = (i + j) + 1 by omega, Nat.pow_succ, Nat.mul_assoc, ← Nat.mul_add, Nat.mod_add_div]
    have h4 : 4294967296 ^ i * (x * lv 4294967296 (C.take (j + 1))) = 4294967296 ^ i * (x * lv 4294967296 (C.take j)) + 4294967296 ^ (i + j) * (x * y) := by
      rw [lv_take_step, hy, Nat.mul_add, Nat.mul_add, Nat.pow_add]
      congr 1
      rw [Nat.mul_assoc]
      congr 1
      rw [← Nat.mul_assoc, ← Nat.mul_assoc, Nat.mul_comm x]
    rw [h4]
    rw [← hT, Nat.mul_add, Nat.mul_add, hT] at h3
    omega
theorem ProdIn.out {A C L : List Nat} {n i c x : Nat} (h : ProdIn A C n i C.length c x L) (hx : A.getD i 0 = x) (hn : i + C.length < n) :
    Prod A C n (i + 1) (L.set (i + C.length) c) := by
  have hq : i + C.length < L.length := by rw [h.len]; omega
  refine ⟨by simpa using h.len, dig_set h.digs _ _ h.carry, ?_, ?_⟩
  · intro t ht
    rw [getD_set_ne (by omega)]
    exact h.high t (by omega)
  · have h1 := lv_set 4294967296 L (i + C.length) c hq
    rw [h.high _ (Nat.le_refl _), Nat.mul_zero, Nat.add_zero, h.value, List.take_of_length_le (Nat.le_refl _)] at h1
    rw [h1, lv_take_step, hx, Nat.add_mul, Nat.mul_assoc]

/-! ### Knuth's estimate of a quotient digit -/
theorem shr_lt (s x : Nat) (hs : s ≤ 32) (hx : x < 4294967296) : x / 2 ^ (32 - s) < 2 ^ s := by
  have h2s : (2 : Nat) ^ s * 2 ^ (32 - s) = 4294967296 := by rw [← Nat.pow_add, show s + (32 - s) = 32 by omega]
  rw [Nat.div_lt_iff_lt_mul (Nat.pow_pos (by omega)), h2s]; exact hx
theorem est_bounds (a b c d f s : Nat) (ha : a ≤ d) (hb : b < 4294967296) (hc : c < 4294967296) (hf : f < 4294967296) (hd0 : 0 < d) (hs : s ≤ 31) (hsd : (d + 1) * 2 ^ s ≤ 4294967296) :
    (a * 4294967296 + b) * 2 ^ s < 2 ^ 64 ∧ d * 2 ^ s < 2 ^ 32 ∧ (a * 4294967296 + b) * 2 ^ s + c / 2 ^ (32 - s) ≤ 18446744073709551615 ∧
    1 ≤ d * 2 ^ s + f / 2 ^ (32 - s) ∧ d * 2 ^ s + f / 2 ^ (32 - s) ≤ 4294967295 := by
  have hc2 := shr_lt s c (by omega) hc
  have hf2 := shr_lt s f (by omega) hf
  have e3 : (2 : Nat) ^ 64 = 2 ^ (64 - s) * 2 ^ s := by rw [← Nat.pow_add, show 64 - s + s = 64 by omega]
  have hpos : 0 < (2 : Nat) ^ s := Nat.pow_pos (by omega)
  generalize (2 : Nat) ^ s = P at *
  generalize c / 2 ^ (32 - s) = c2 at *
  generalize f / 2 ^ (32 - s) = f2 at *
  generalize (2 : Nat) ^ (64 - s) = Q at *
  rw [Nat.add_mul, Nat.one_mul] at hsd
  have h0 : 1 * P ≤ d * P := Nat.mul_le_mul_right _ hd0
  have h1 : (a * 4294967296 + b) * P < 2 ^ 64 := by
    have e1 : a * 4294967296 + b + 1 ≤ (d + 1) * 4294967296 := by omega
    have e2 : (a * 4294967296 + b + 1) * P ≤ (d + 1) * 4294967296 * P := Nat.mul_le_mul_right _ e1
    have e4 : (d + 1) * 4294967296 * P = 4294967296 * (d * P + P) := by rw [Nat.mul_comm (d + 1), Nat.mul_assoc, Nat.add_mul, Nat.one_mul]
    rw [Nat.add_mul (a * 4294967296 + b) 1, Nat.one_mul] at e2
    omega
  refine ⟨h1, by omega, ?_, by omega, by omega⟩
  have e4 : a * 4294967296 + b < Q := by rw [e3] at h1; exact Nat.lt_of_mul_lt_mul_right h1
  have e5 : (a * 4294967296 + b + 1) * P ≤ Q * P := Nat.mul_le_mul_right _ e4
  rw [← e3, Nat.add_mul (a * 4294967296 + b) 1, Nat.one_mul] at e5
  omega

theorem est_core (ab c d f X Y B P U V ul vl : Nat) (hB : X * Y = B) (hY : 0 < Y) (hU : U = (ab * B + c) * P + ul) (hV : V = (d * B + f) * P + vl) (hul : ul < P)
    (hD : 1 ≤ d * X + f / Y) : U / V ≤ (ab * X + c / Y) / (d * X + f / Y) := by
  have hmul : U / V * V ≤ U := Nat.div_mul_le_self U V
  generalize U / V = q at *
  rw [Nat.le_div_iff_mul_le hD]
  have h3 : q * (d * B + f) ≤ ab * B + c := by
    have h4 : q * ((d * B + f) * P) ≤ q * V := Nat.mul_le_mul_left _ (by omega)
    have h5 : q * (d * B + f) * P < (ab * B + c + 1) * P := by
      rw [Nat.mul_assoc, Nat.add_mul _ 1, Nat.one_mul]; omega
    have := Nat.lt_of_mul_lt_mul_right h5
    omega
  have hfd : Y * (f / Y) ≤ f := Nat.mul_div_le f _
  have hcd : c < Y * (c / Y + 1) := Nat.lt_mul_div_succ c hY
  generalize f / Y = f2 at *
  generalize c / Y = c2 at *
  have h6 : q * (d * X + f2) * Y ≤ q * (d * B + f) := by
    rw [Nat.mul_assoc]
    refine Nat.mul_le_mul_left _ ?_
    rw [Nat.add_mul, Nat.mul_assoc, hB, Nat.mul_comm f2]
    omega
  have h7 : ab * B + c < (ab * X + c2 + 1) * Y := by
    rw [Nat.add_assoc, Nat.add_mul, Nat.mul_assoc, hB, Nat.mul_comm (c2 + 1)]
    omega
  have h8 : q * (d * X + f2) * Y < (ab * X + c2 + 1) * Y := by omega
  have := Nat.lt_of_mul_lt_mul_right h8
  omega
/-- The estimate is not less than the quotient: U is [ab c] and more, V is [d f] and more, each in base 2^32, P is the weight of c and f. -/
theorem est_ge (ab c d f s P U V ul vl : Nat) (hs : s ≤ 31) (hU : U = (ab * 4294967296 + c) * P + ul) (hV : V = (d * 4294967296 + f) * P + vl) (hul : ul < P)
    (hV0 : 0 < V) (hD : 1 ≤ d * 2 ^ s + f / 2 ^ (32 - s)) (hlt : U < V * 4294967296) :
    U / V ≤ min ((ab * 2 ^ s + c / 2 ^ (32 - s)) / (d * 2 ^ s + f / 2 ^ (32 - s))) 4294967295 := by
  have hq2 : U / V < 4294967296 := by rw [Nat.div_lt_iff_lt_mul hV0, Nat.mul_comm]; exact hlt
  have h2s : (2 : Nat) ^ s * 2 ^ (32 - s) = 4294967296 := by rw [← Nat.pow_add, show s + (32 - s) = 32 by omega]
  exact Nat.le_min.2 ⟨est_core ab c d f _ _ _ P U V ul vl h2s (Nat.pow_pos (by omega)) hU hV hul hD, by omega⟩

/-! ### windows: the digits of U from o on, k of them -/
def win (B : Nat) (U : List Nat) (o : Nat) : Nat → Nat
  | 0 => 0
  | i + 1 => win B U o i + B ^ i * U.getD (o + i) 0
theorem win_congr (B : Nat) (U L : List Nat) (o : Nat) : ∀ i, (∀ j, j < i → U.getD (o + j) 0 = L.getD (o + j) 0) → win B U o i = win B L o i
  | 0, _ => rfl
  | i + 1, h => by rw [win, win, win_congr B U L o i (fun j hj => h j (by omega)), h i (by omega)]
theorem win_lt (B : Nat) (U : List Nat) (o : Nat) (hB : 0 < B) (h : dig B U) : ∀ i, win B U o i < B ^ i
  | 0 => by simp [win]
  | i + 1 => by
    have h1 := win_lt B U o hB h i
    have h2 := dig_getD hB h (o + i)
    have h3 : B ^ i * U.getD (o + i) 0 ≤ B ^ i * (B - 1) := Nat.mul_le_mul_left _ (by omega)
    have h4 : B ^ i * (B - 1) + B ^ i = B ^ (i + 1) := by rw [Nat.pow_succ, ← Nat.mul_succ]; congr 1; omega
    rw [win]; omega
theorem win_take (B : Nat) (U : List Nat) : ∀ i, win B U 0 i = lv B (U.take i)
  | 0 => by simp [win]
  | i + 1 => by rw [win, lv_take_step, win_take B U i, Nat.zero_add]
theorem win_all (B : Nat) (U : List Nat) : win B U 0 U.length = lv B U := by rw [win_take, List.take_of_length_le (Nat.le_refl _)]
theorem win_add (B : Nat) (U : List Nat) (o i : Nat) : ∀ k, win B U o (i + k) = win B U o i + B ^ i * win B U (o + i) k
  | 0 => by simp [win]
  | k + 1 => by
    rw [← Nat.add_assoc, win, win_add B U o i k, win, Nat.mul_add, Nat.pow_add, Nat.mul_assoc, Nat.add_assoc o i k]; omega
theorem win_set_out (B : Nat) (U : List Nat) (o i q y : Nat) (h : q < o ∨ o + i ≤ q) : win B (U.set q y) o i = win B U o i :=
  win_congr B _ _ o i (fun j hj => getD_set_ne (by omega))

/-- U - q V in place: i digits are done, c is borrowed. -/
structure SubM (U V : List Nat) (o q i c : Nat) (L : List Nat) : Prop where
  len : L.length = U.length
  digs : dig 4294967296 L
  other : ∀ j, (j < o ∨ o + i ≤ j) → L.getD j 0 = U.getD j 0
  carry : c < 4294967296
  value : win 4294967296 L o i + q * lv 4294967296 (V.take i) = win 4294967296 U o i + 4294967296 ^ i * c
theorem SubM.start {U V : List Nat} (o q : Nat) (h : dig 4294967296 U) : SubM U V o q 0 0 U := ⟨rfl, h, fun _ _ => rfl, by omega, by simp [win]⟩
theorem mul_bound {x y : Nat} (hx : x < 4294967296) (hy : y < 4294967296) : x * y ≤ 18446744065119617025 := by
  have : x * y ≤ 4294967295 * 4294967295 := Nat.mul_le_mul (by omega) (by omega)
  omega
theorem sub_digit (B P S W c v q T : Nat) (u d b : Nat) (h : S + W = T + P * c) (hd : d + (c + v * q) = u + B * b) : S + P * d + (W + P * (v * q)) = T + P * u + P * B * b := by
  have : P * (d + (c + v * q)) = P * (u + B * b) := by rw [hd]
  simp only [Nat.mul_add, ← Nat.mul_assoc] at this ⊢
  omega
theorem SubM.step {U V L : List Nat} {o q i c v : Nat} (h : SubM U V o q i c L) (hq : q < 4294967296) (hv : V.getD i 0 = v) (hV : dig 4294967296 V) (hi : o + i < U.length)
    (d b : Nat) (hd : d < 4294967296) (hb : d + (c + v * q) = U.getD (o + i) 0 + 4294967296 * b) :
    b < 4294967296 ∧ SubM U V o q (i + 1) b (L.set (o + i) d) := by
  have hv2 : v < 4294967296 := by rw [← hv]; exact dig_getD (by omega) hV i
  have hvq := mul_bound hv2 hq
  have hc := h.carry
  have hb2 : b < 4294967296 := by omega
  refine ⟨hb2, ⟨by simpa using h.len, dig_set h.digs _ _ hd, ?_, hb2, ?_⟩⟩
  · intro j hj
    rw [getD_set_ne (by omega)]
    exact h.other j (by omega)
  · have h1 := sub_digit 4294967296 (4294967296 ^ i) _ _ c v q _ (U.getD (o + i) 0) d b h.value hb
    rw [win, win, win_set_out _ _ _ _ _ _ (by omega), getD_set_eq (by rw [h.len]; exact hi), lv_take_step, hv, Nat.mul_add, Nat.pow_succ]
    rw [show q * (4294967296 ^ i * v) = 4294967296 ^ i * (v * q) by rw [Nat.mul_left_comm, Nat.mul_comm q v]]
    exact h1

/-- U + V in place: i digits are done, c is carried. -/
structure AddM (U V : List Nat) (o i c : Nat) (L : List Nat) : Prop where
  len : L.length = U.length
  digs : dig 4294967296 L
  other : ∀ j, (j < o ∨ o + i ≤ j) → L.getD j 0 = U.getD j 0
  carry : c ≤ 1
  value : win 4294967296 L o i + 4294967296 ^ i * c = win 4294967296 U o i + lv 4294967296 (V.take i)
theorem AddM.start {U V : List Nat} (o : Nat) (h : dig 4294967296 U) : AddM U V o 0 0 U := ⟨rfl, h, fun _ _ => rfl, by omega, by simp [win]⟩
theorem AddM.step {U V L : List Nat} {o i c v : Nat} (h : AddM U V o i c L) (hv : V.getD i 0 = v) (hV : dig 4294967296 V) (hi : o + i < U.length) :
    AddM U V o (i + 1) ((c + (U.getD (o + i) 0 + v)) / 4294967296) (L.set (o + i) ((c + (U.getD (o + i) 0 + v)) % 4294967296)) := by
  have hv2 : v < 4294967296 := by rw [← hv]; exact dig_getD (by omega) hV i
  have hu : U.getD (o + i) 0 < 4294967296 := by rw [← h.other (o + i) (by omega)]; exact dig_getD (by omega) h.digs _
  have hc := h.carry
  refine ⟨by simpa using h.len, dig_set h.digs _ _ (Nat.mod_lt _ (by omega)), ?_, by omega, ?_⟩
  · intro j hj
    rw [getD_set_ne (by omega)]
    exact h.other j (by omega)
  · have h1 := h.value
    rw [win, win, win_set_out _ _ _ _ _ _ (by omega), getD_set_eq (by rw [h.len]; exact hi), lv_take_step, hv, Nat.pow_succ]
    generalize hT : c + (U.getD (o + i) 0 + v) = T at *
    have h2 : 4294967296 ^ i * T = 4294967296 ^ i * (T % 4294967296) + 4294967296 ^ i * 4294967296 * (T / 4294967296) := by
      rw [Nat.mul_assoc, ← Nat.mul_add, Nat.mod_add_div]
    rw [← hT, Nat.mul_add, Nat.mul_add, hT] at h2
    omega

theorem win_top3 (B : Nat) (U : List Nat) (o k : Nat) :
    win B U o (k + 3) = ((U.getD (o + (k + 2)) 0 * B + U.getD (o + (k + 1)) 0) * B + U.getD (o + k) 0) * B ^ k + win B U o k := by
  simp only [win, Nat.pow_succ]
  generalize B ^ k = P
  grind
theorem win_top2 (B : Nat) (U : List Nat) (o : Nat) : win B U o 2 = U.getD (o + 1) 0 * B + U.getD o 0 := by
  simp only [win]
  simp
  rw [Nat.mul_comm B]; omega
theorem lv_top2 (B : Nat) (V : List Nat) (k : Nat) (h : V.length = k + 2) : lv B V = (V.getD (k + 1) 0 * B + V.getD k 0) * B ^ k + lv B (V.take k) := by
  have e : lv B V = lv B (V.take (k + 1 + 1)) := by rw [List.take_of_length_le (by omega)]
  rw [e, lv_take_step, lv_take_step, Nat.pow_succ]
  generalize B ^ k = P
  grind
theorem noz_last {V : List Nat} {m : Nat} (h : noz V) (hm : V.length = m) (h0 : 0 < m) : 0 < V.getD (m - 1) 0 := by
  have : V.getD (m - 1) 0 ≠ 0 := by
    intro he
    apply h
    rw [List.getLast?_eq_getElem?, hm, List.getElem?_eq_getElem (by omega)]
    rw [getD_lt _ _ (by omega)] at he
    rw [he]
  omega
theorem lv_pos {B : Nat} {V : List Nat} (hB : 0 < B) (h : noz V) (h0 : V ≠ []) : 0 < lv B V := by
  have := lv_ge (B := B) V h h0
  have : 0 < B ^ (V.length - 1) := Nat.pow_pos hB
  omega
theorem top_le {B : Nat} {U V : List Nat} {o m : Nat} (hB : 0 < B) (dV : dig B V) (hm : V.length = m) (h0 : 0 < m) (h : win B U o (m + 1) < lv B V * B) : U.getD (o + m) 0 ≤ V.getD (m - 1) 0 := by
  have e : lv B V = lv B (V.take (m - 1 + 1)) := by rw [List.take_of_length_le (by omega)]
  rw [lv_take_step] at e
  have h1 : lv B (V.take (m - 1)) < B ^ (m - 1) := by
    have := lv_lt hB _ (dig_take dV (m - 1))
    rwa [List.length_take, Nat.min_eq_left (by omega)] at this
  have h2 : B ^ m * U.getD (o + m) 0 ≤ win B U o (m + 1) := by rw [win]; omega
  have h3 : lv B V * B < B ^ (m - 1) * (V.getD (m - 1) 0 + 1) * B := by
    refine Nat.mul_lt_mul_of_pos_right ?_ hB
    rw [Nat.mul_add, Nat.mul_one]; omega
  have h4 : B ^ (m - 1) * (V.getD (m - 1) 0 + 1) * B = B ^ m * (V.getD (m - 1) 0 + 1) := by
    rw [Nat.mul_right_comm, ← Nat.pow_succ, show (m - 1).succ = m by omega]
  have h5 : B ^ m * U.getD (o + m) 0 < B ^ m * (V.getD (m - 1) 0 + 1) := by omega
  have := Nat.lt_of_mul_lt_mul_left h5
  omega

theorem est_one (a b d s : Nat) (ha : a ≤ d) (hb : b < 4294967296) (hd0 : 0 < d) (hs : s ≤ 31) (hsd : (d + 1) * 2 ^ s ≤ 4294967296) (hlt : a * 4294967296 + b < d * 4294967296) :
    (a * 4294967296 + b) / d ≤ min (((a * 4294967296 + b) * 2 ^ s + 0 / 2 ^ (32 - s)) / (d * 2 ^ s + 0 / 2 ^ (32 - s))) 4294967295 := by
  have hD := (est_bounds a b 0 d 0 s ha hb (by omega) (by omega) hd0 hs hsd).2.2.2.1
  have h := est_ge (a * 4294967296 + b) 0 d 0 s 1 ((a * 4294967296 + b) * 4294967296) (d * 4294967296) 0 0 hs (by omega) (by omega) (by omega) (by omega) hD (Nat.mul_lt_mul_of_pos_right hlt (by omega))
  rwa [Nat.mul_div_mul_right _ _ (by omega)] at h

theorem est_list {U V : List Nat} {o k s : Nat} (dU : dig 4294967296 U) (dV : dig 4294967296 V) (nV : noz V) (hm : V.length = k + 2) (hlt : win 4294967296 U o (k + 3) < lv 4294967296 V * 4294967296) (hs : s ≤ 31) (hsd : (V.getD (k + 1) 0 + 1) * 2 ^ s ≤ 4294967296) :
    win 4294967296 U o (k + 3) / lv 4294967296 V ≤
      min (((U.getD (o + (k + 2)) 0 * 4294967296 + U.getD (o + (k + 1)) 0) * 2 ^ s + U.getD (o + k) 0 / 2 ^ (32 - s)) / (V.getD (k + 1) 0 * 2 ^ s + V.getD k 0 / 2 ^ (32 - s))) 4294967295 := by
  have htop := top_le (o := o) (m := k + 2) (by omega) dV hm (by omega) hlt
  have hlast := noz_last nV hm (by omega)
  have hV0 : 0 < lv 4294967296 V := lv_pos (by omega) nV (by rintro rfl; simp at hm)
  have a2 := dig_getD (by omega) dU (o + (k + 1))
  have a3 := dig_getD (by omega) dU (o + k)
  have b2 := dig_getD (by omega) dV k
  have hU3 := win_top3 4294967296 U o k
  have hV2 := lv_top2 4294967296 V k hm
  have hul := win_lt 4294967296 U o (by omega) dU k
  rw [show k + 2 - 1 = k + 1 by omega] at htop hlast
  generalize win 4294967296 U o (k + 3) = uu at *
  generalize lv 4294967296 V = vv at *
  generalize win 4294967296 U o k = ul at *
  generalize lv 4294967296 (V.take k) = vl at *
  generalize U.getD (o + (k + 2)) 0 = a at *
  generalize U.getD (o + (k + 1)) 0 = b at *
  generalize U.getD (o + k) 0 = c at *
  generalize V.getD (k + 1) 0 = d at *
  generalize V.getD k 0 = f at *
  exact est_ge (a * 4294967296 + b) c d f s (4294967296 ^ k) uu vv ul vl hs hU3 hV2 hul hV0 (est_bounds a b c d f s htop a2 a3 b2 hlast hs hsd).2.2.2.1 hlt
theorem min_lt (x : Nat) : min x 4294967295 < 4294967296 := Nat.lt_of_le_of_lt (Nat.min_le_right _ _) (by decide)

theorem lv_one (B : Nat) : ∀ (V : List Nat), V.length = 1 → lv B V = V.getD 0 0
  | [x], _ => by simp
  | [], h => by simp at h
  | _ :: _ :: _, h => by simp at h

theorem drop_set {l : List Nat} {i y : Nat} (h : i < l.length) : (l.set i y).drop i = y :: l.drop (i + 1) := by
  rw [List.drop_eq_getElem_cons (by simpa using h), List.getElem_set_self, List.drop_set_of_lt (by omega)]

theorem win_nil (B o : Nat) : ∀ k, win B [] o k = 0
  | 0 => rfl
  | k + 1 => by rw [win, win_nil B o k]; simp
/-- Schoolbook division: t digits of the quotient are still to come. -/
structure DivI (B u : Nat) (V : List Nat) (N m t : Nat) (L Q : List Nat) : Prop where
  lenL : L.length = N
  lenQ : Q.length = N - m
  digL : dig B L
  digQ : dig B Q
  zero : ∀ j, t + m ≤ j → L.getD j 0 = 0
  small : win B L t m < lv B V
  value : u = win B L 0 (t + m) + lv B V * (B ^ t * lv B (Q.drop t))
theorem DivI.start {B : Nat} {U V : List Nat} {m : Nat} (hB : 1 < B) (dU : dig B U) (nV : noz V) (hm : V.length = m) (hm0 : 1 ≤ m) (hle : m ≤ U.length) (Q : List Nat) (hQ : Q = List.replicate (U.length + 1 - m) 0) :
    DivI B (lv B U) V (U.length + 1) m (U.length + 1 - m) (U ++ [0]) Q := by
  have hV : B ^ (m - 1) ≤ lv B V := by
    have := lv_ge (B := B) V nV (by rintro rfl; simp at hm; omega)
    rwa [hm] at this
  have dU0 : dig B (U ++ [0]) := dig_append dU (dig_cons (by omega) (dig_nil _))
  have hlast : (U ++ [0]).getD U.length 0 = 0 := by simp
  subst hQ
  refine ⟨by simp, by simp, dU0, dig_replicate (by omega) _, fun j hj => ?_, ?_, ?_⟩
  · by_cases h : j = U.length
    · rw [h]; exact hlast
    · exact getD_ge _ _ (by simp; omega)
  · obtain ⟨k, rfl⟩ : ∃ k, m = k + 1 := ⟨m - 1, by omega⟩
    rw [win, show U.length + 1 - (k + 1) + k = U.length by omega, hlast, Nat.mul_zero, Nat.add_zero]
    exact Nat.lt_of_lt_of_le (win_lt B _ _ (by omega) dU0 k) (by simpa using hV)
  · rw [List.drop_eq_nil_of_le (by simp), show U.length + 1 - m + m = (U ++ [0]).length by simp; omega, win_all, lv_append]
    simp
theorem DivI.lt {B u : Nat} {V : List Nat} {N m i : Nat} {L Q : List Nat} (h : DivI B u V N m (i + 1) L Q) (hB : 1 < B) : win B L i (m + 1) < lv B V * B := by
  have h1 := win_add B L i 1 m
  rw [Nat.add_comm 1 m] at h1
  rw [h1]
  have h2 := dig_getD (by omega) h.digL i
  have h3 := h.small
  have h4 : B * win B L (i + 1) m ≤ B * (lv B V - 1) := Nat.mul_le_mul_left _ (by omega)
  have h5 : B * (lv B V - 1) + B = lv B V * B := by rw [← Nat.mul_succ, Nat.mul_comm]; congr 1; omega
  simp only [win, Nat.pow_zero, Nat.one_mul, Nat.pow_one, Nat.zero_add, Nat.add_zero]
  omega
theorem DivI.step {B u : Nat} {V : List Nat} {N m i q : Nat} {L Q M : List Nat} (h : DivI B u V N m (i + 1) L Q) (hB : 1 < B) (dV : dig B V) (hm : V.length = m) (hi : i < N - m)
    (hq : q < B) (hqe : q = win B L i (m + 1) / lv B V) (lM : M.length = L.length) (dM : dig B M) (oM : ∀ j, (j < i ∨ i + (m + 1) ≤ j) → M.getD j 0 = L.getD j 0) (hM : win B M i (m + 1) = win B L i (m + 1) % lv B V) :
    DivI B u V N m i M (Q.set i q) := by
  have hV0 : 0 < lv B V := by have := h.small; omega
  have hVm : lv B V < B ^ m := by have := lv_lt (by omega) V dV; rwa [hm] at this
  have hw : win B M i (m + 1) < lv B V := by rw [hM]; exact Nat.mod_lt _ hV0
  have htop : M.getD (i + m) 0 = 0 := by
    apply Classical.byContradiction
    intro hne
    rw [win] at hw
    have : B ^ m * 1 ≤ B ^ m * M.getD (i + m) 0 := Nat.mul_le_mul_left _ (by omega)
    omega
  have hwm : win B M i (m + 1) = win B M i m := by rw [win, htop, Nat.mul_zero, Nat.add_zero]
  refine ⟨by rw [lM, h.lenL], by simpa using h.lenQ, dM, dig_set h.digQ _ _ hq, fun j hj => ?_, by rw [← hwm]; exact hw, ?_⟩
  · by_cases he : j = i + m
    · rw [he]; exact htop
    · rw [oM j (by omega)]; exact h.zero j (by omega)
  · have h1 := h.value
    rw [show i + 1 + m = i + (m + 1) by omega, win_add B L 0 i (m + 1), Nat.zero_add] at h1
    have h2 : win B M 0 i = win B L 0 i := win_congr B _ _ 0 i (fun j hj => oM _ (by omega))
    rw [win_add B M 0 i m, Nat.zero_add, h2, ← hwm, hM, drop_set (by rw [h.lenQ]; exact hi), lv_cons, h1]
    have h3 := Nat.mod_add_div (win B L i (m + 1)) (lv B V)
    rw [← hqe] at h3
    generalize win B L i (m + 1) % lv B V = r at *
    rw [← h3, Nat.pow_succ]
    generalize B ^ i = P
    generalize lv B (List.drop (i + 1) Q) = z
    generalize lv B V = v
    grind
theorem DivI.done {B u : Nat} {V : List Nat} {N m : Nat} {L Q : List Nat} (h : DivI B u V N m 0 L Q) (hN : m ≤ N) : lv B Q = u / lv B V ∧ lv B L = u % lv B V := by
  have hV0 : 0 < lv B V := by have := h.small; omega
  have h1 := h.value
  rw [Nat.zero_add] at h1
  simp only [Nat.pow_zero, Nat.one_mul, List.drop_zero] at h1
  have h2 : lv B L = win B L 0 m := by
    obtain ⟨k, rfl⟩ : ∃ k, N = m + k := ⟨N - m, by omega⟩
    rw [← win_all, h.lenL, win_add, Nat.zero_add]
    have : win B L m k = 0 := by
      rw [win_congr B L [] m k (fun j _ => by rw [h.zero _ (by omega)]; simp), win_nil]
    rw [this]; simp
  have h3 := h.small
  rw [h2]
  constructor
  · rw [h1, Nat.add_mul_div_left _ _ hV0, Nat.div_eq_of_lt h3, Nat.zero_add]
  · rw [h1, Nat.add_mul_mod_self_left, Nat.mod_eq_of_lt h3]

/-! ### decimal digits -/
def isD (c : UInt8) : Bool := decide (48 ≤ c.toNat) && decide (c.toNat ≤ 57)
def dgs (l : List UInt8) : List Nat := l.map fun c => c.toNat - 48
/-- The number that decimal digits represent. -/
def dv (l : List UInt8) : Nat := lv 10 (dgs l).reverse
@[simp] theorem dv_nil : dv [] = 0 := rfl
theorem dv_append (l m : List UInt8) : dv (l ++ m) = dv m + 10 ^ m.length * dv l := by
  unfold dv dgs; rw [List.map_append, List.reverse_append, lv_append]; simp
theorem dv_snoc (l : List UInt8) (c : UInt8) : dv (l ++ [c]) = (c.toNat - 48) + 10 * dv l := by
  rw [dv_append]; simp [dv, dgs]
theorem dv_cons (c : UInt8) (l : List UInt8) : dv (c :: l) = dv l + 10 ^ l.length * (c.toNat - 48) := by
  have := dv_append [c] l
  simpa [dv, dgs] using this
theorem dig_dgs (l : List UInt8) (h : l.all isD = true) : dig 10 (dgs l).reverse := by
  intro x hx
  obtain ⟨c, hc, rfl⟩ := List.mem_map.1 (List.mem_reverse.1 hx)
  have := List.all_eq_true.1 h c hc
  simp [isD] at this
  omega
theorem dv_lt (l : List UInt8) (h : l.all isD = true) : dv l < 10 ^ l.length := by
  have := lv_lt (B := 10) (by omega) _ (dig_dgs l h)
  simpa [dv, dgs] using this
/-- Decimal digits without superfluous leading zeros. -/
def canD (l : List UInt8) : Bool := !l.isEmpty && l.all isD && (decide (l.length = 1) || decide (l.head? ≠ some 48))
def Dec (l : List UInt8) (n : Nat) : Prop := canD l = true ∧ dv l = n
theorem dgs_inj : ∀ (l m : List UInt8), l.all isD = true → m.all isD = true → dgs l = dgs m → l = m
  | [], [], _, _, _ => rfl
  | [], _ :: _, _, _, h => by simp [dgs] at h
  | _ :: _, [], _, _, h => by simp [dgs] at h
  | c :: l, d :: m, h1, h2, h => by
    simp only [dgs, List.map_cons, List.cons.injEq] at h
    simp only [List.all_cons, Bool.and_eq_true] at h1 h2
    have hc := h1.1
    have hd := h2.1
    simp [isD] at hc hd
    rw [dgs_inj l m h1.2 h2.2 h.2, show c = d from UInt8.toNat_inj.1 (by omega)]
theorem canD_noz {l : List UInt8} (h : canD l = true) (hn : l ≠ [48]) : noz (dgs l).reverse := by
  unfold noz
  simp only [canD, Bool.and_eq_true, Bool.not_eq_true', Bool.or_eq_true, decide_eq_true_eq] at h
  obtain ⟨⟨h1, h2⟩, h3⟩ := h
  cases l with
  | nil => simp at h1
  | cons c l =>
    simp only [dgs, List.map_cons, List.reverse_cons, List.getLast?_append, List.getLast?_singleton]
    simp only [List.all_cons, Bool.and_eq_true] at h2
    have hc := h2.1
    simp [isD] at hc
    have hc48 : c ≠ 48 := by
      rintro rfl
      rcases h3 with h3 | h3
      · simp at h3; subst h3; exact hn rfl
      · simp at h3
    have : c.toNat ≠ 48 := fun he => hc48 (UInt8.toNat_inj.1 he)
    simp; omega
theorem Dec_unique {l m : List UInt8} {n : Nat} (h : Dec l n) (k : Dec m n) : l = m := by
  have all : ∀ x, canD x = true → x.all isD = true := fun x hx => by
    simp only [canD, Bool.and_eq_true] at hx; exact hx.1.2
  have pos : ∀ x, canD x = true → x ≠ [48] → 0 < dv x := by
    intro x hx hne
    refine lv_pos (by omega) (canD_noz hx hne) ?_
    intro he
    have : x = [] := by cases x with | nil => rfl | cons c x => simp [dgs] at he
    subst this; simp [canD] at hx
  have zero : dv [48] = 0 := by decide
  by_cases hl : l = [48]
  · by_cases hm : m = [48]
    · rw [hl, hm]
    · have := pos m k.1 hm
      rw [k.2, ← h.2, hl, zero] at this; omega
  · by_cases hm : m = [48]
    · have := pos l h.1 hl
      rw [h.2, ← k.2, hm, zero] at this; omega
    · have h1 := lv_canon (B := 10) (by omega) _ _ (dig_dgs l (all l h.1)) (dig_dgs m (all m k.1)) (canD_noz h.1 hl) (canD_noz k.1 hm) (h.2.trans k.2.symm)
      exact dgs_inj l m (all l h.1) (all m k.1) (List.reverse_inj.1 h1)

/-- X sc + v in place: i digits are done, c is carried. -/
structure ScM (X : List Nat) (sc v i c : Nat) (L : List Nat) : Prop where
  len : L.length = X.length
  digs : dig 4294967296 L
  other : ∀ j, i ≤ j → L.getD j 0 = X.getD j 0
  carry : c < 4294967296
  value : win 4294967296 L 0 i + 4294967296 ^ i * c = lv 4294967296 (X.take i) * sc + v
theorem ScM.start {X : List Nat} (sc v : Nat) (h : dig 4294967296 X) (hv : v < 4294967296) : ScM X sc v 0 v X := ⟨rfl, h, fun _ _ => rfl, hv, by simp [win]⟩
theorem ScM.step {X L : List Nat} {sc v i c x : Nat} (h : ScM X sc v i c L) (hsc : sc < 4294967296) (hx : X.getD i 0 = x) (hX : dig 4294967296 X) (hi : i < X.length) :
    ScM X sc v (i + 1) ((c + x * sc) / 4294967296) (L.set i ((c + x * sc) % 4294967296)) := by
  have hx2 : x < 4294967296 := by rw [← hx]; exact dig_getD (by omega) hX i
  have hp := mul_bound hx2 hsc
  have hc := h.carry
  refine ⟨by simpa using h.len, dig_set h.digs _ _ (Nat.mod_lt _ (by omega)), ?_, by omega, ?_⟩
  · intro j hj
    rw [getD_set_ne (by omega)]
    exact h.other j (by omega)
  · have h1 := h.value
    rw [win, Nat.zero_add, win_set_out _ _ _ _ _ _ (by omega), getD_set_eq (by rw [h.len]; exact hi), lv_take_step, hx, Nat.pow_succ]
    generalize hT : c + x * sc = T at *
    have h2 : 4294967296 ^ i * T = 4294967296 ^ i * (T % 4294967296) + 4294967296 ^ i * 4294967296 * (T / 4294967296) := by
      rw [Nat.mul_assoc, ← Nat.mul_add, Nat.mod_add_div]
    rw [← hT, Nat.mul_add, hT] at h2
    rw [Nat.add_mul]
    have h3 : 4294967296 ^ i * x * sc = 4294967296 ^ i * (x * sc) := Nat.mul_assoc _ _ _
    omega
theorem ScM.done {X L : List Nat} {sc v c : Nat} (h : ScM X sc v X.length c L) : lv 4294967296 (L ++ [c]) = lv 4294967296 X * sc + v := by
  have h1 := h.value
  rw [List.take_of_length_le (Nat.le_refl _)] at h1
  rw [lv_snoc, h.len, ← h1, ← h.len, win_all]

end Nd

/- Part Math2. -/

namespace Nd

/-- Division by the digit d, the most significant digit first: t digits are still to come, r is the rest. -/
structure ShI (d : Nat) (X : List Nat) (t r : Nat) (L : List Nat) : Prop where
  len : L.length = X.length
  digs : dig 4294967296 L
  rest : r < d
  value : lv 4294967296 (X.drop t) = d * lv 4294967296 (L.drop t) + r
theorem ShI.start {d : Nat} {X L : List Nat} (hd : 0 < d) (hl : L.length = X.length) (dL : dig 4294967296 L) : ShI d X X.length 0 L :=
  ⟨hl, dL, hd, by rw [List.drop_eq_nil_of_le (Nat.le_refl _), List.drop_eq_nil_of_le (by omega)]; simp⟩
theorem ShI.step {d : Nat} {X L : List Nat} {i r x : Nat} (h : ShI d X (i + 1) r L) (hi : i < X.length) (hx : X.getD i 0 = x) (dX : dig 4294967296 X) :
    (r * 4294967296 + x) / d < 4294967296 ∧ ShI d X i ((r * 4294967296 + x) % d) (L.set i ((r * 4294967296 + x) / d)) := by
  have hd : 0 < d := by have := h.rest; omega
  have hx2 : x < 4294967296 := by rw [← hx]; exact dig_getD (by omega) dX i
  have h1 : (r * 4294967296 + x) / d < 4294967296 := by
    rw [Nat.div_lt_iff_lt_mul hd]
    have h2 : (r + 1) * 4294967296 ≤ d * 4294967296 := Nat.mul_le_mul_right _ h.rest
    rw [Nat.mul_comm 4294967296 d]
    omega
  refine ⟨h1, ⟨by simpa using h.len, dig_set h.digs _ _ h1, Nat.mod_lt _ hd, ?_⟩⟩
  rw [lv_drop _ _ _ hi, hx, h.value, drop_set (by rw [h.len]; exact hi), lv_cons]
  have h2 := Nat.div_add_mod (r * 4294967296 + x) d
  generalize (r * 4294967296 + x) / d = q at *
  generalize (r * 4294967296 + x) % d = s at *
  generalize lv 4294967296 (L.drop (i + 1)) = z at *
  grind
theorem ShI.done {d : Nat} {X L : List Nat} {r : Nat} (h : ShI d X 0 r L) : lv 4294967296 L = lv 4294967296 X / d ∧ r = lv 4294967296 X % d := by
  have h1 := h.value
  simp only [List.drop_zero] at h1
  have hr := h.rest
  rw [h1]
  constructor
  · rw [Nat.mul_add_div (by omega), Nat.div_eq_of_lt hr, Nat.add_zero]
  · rw [Nat.mul_add_mod, Nat.mod_eq_of_lt hr]

/-- The characters of decimal digits. -/
def chr (E : List Nat) : List Nat := E.map (· + 48)
theorem chr_append (E F : List Nat) : chr (E ++ F) = chr E ++ chr F := by simp [chr]
theorem ofNums_chr_all : ∀ (E : List Nat), dig 10 E → (ofNums (chr E)).all isD = true
  | [], _ => rfl
  | x :: E, h => by
    have hx := dig_head h
    have ih := ofNums_chr_all E (dig_tail h)
    have e : (UInt8.ofNat (x + 48)).toNat = x + 48 := by rw [UInt8.toNat_ofNat_of_lt' (by simp [UInt8.size]; omega)]
    simp only [chr, ofNums, List.map_cons, List.all_cons, Bool.and_eq_true] at ih ⊢
    refine ⟨?_, ih⟩
    simp only [isD, Bool.and_eq_true, decide_eq_true_eq]
    omega
theorem dgs_chr : ∀ (E : List Nat), dig 10 E → dgs (ofNums (chr E)) = E
  | [], _ => rfl
  | x :: E, h => by
    have hx := dig_head h
    have ih := dgs_chr E (dig_tail h)
    have e : (UInt8.ofNat (x + 48)).toNat = x + 48 := by rw [UInt8.toNat_ofNat_of_lt' (by simp [UInt8.size]; omega)]
    simp only [chr, ofNums, dgs, List.map_cons] at ih ⊢
    rw [ih, e]; simp
theorem dv_chr (E : List Nat) (h : dig 10 E) : dv (ofNums (chr E)) = lv 10 E.reverse := by rw [dv, dgs_chr E h]
theorem dig_reverse {B : Nat} {l : List Nat} (h : dig B l) : dig B l.reverse := fun x hx => h x (List.mem_reverse.1 hx)

/-- Without leading characters 0. -/
def cut0 (l : List UInt8) : List UInt8 := l.dropWhile (· == 48)
theorem cut0_all : ∀ (l : List UInt8), l.all isD = true → (cut0 l).all isD = true
  | [], _ => rfl
  | c :: l, h => by
    simp only [List.all_cons, Bool.and_eq_true] at h
    unfold cut0
    rw [List.dropWhile_cons]
    split
    · exact cut0_all l h.2
    · simp [h.1]; simpa using h.2
theorem dv_cut0 : ∀ (l : List UInt8), dv (cut0 l) = dv l
  | [] => rfl
  | c :: l => by
    unfold cut0
    rw [List.dropWhile_cons]
    split
    · rename_i h
      have : c = 48 := by simpa using h
      subst this
      rw [dv_cons]
      have := dv_cut0 l
      unfold cut0 at this
      rw [this]; simp
    · rfl
theorem cut0_head (l : List UInt8) : (cut0 l).head? ≠ some 48 := by
  unfold cut0
  induction l with
  | nil => simp
  | cons c l ih =>
    rw [List.dropWhile_cons]
    split
    · exact ih
    · rename_i h; simpa using h
theorem Dec_cut0 (l : List UInt8) (h : l.all isD = true) (hne : cut0 l ≠ []) : Dec (cut0 l) (dv l) := by
  refine ⟨?_, dv_cut0 l⟩
  simp only [canD, Bool.and_eq_true, Bool.not_eq_true', Bool.or_eq_true, decide_eq_true_eq]
  exact ⟨⟨by simpa using hne, cut0_all l h⟩, .inr (cut0_head l)⟩
theorem Dec_zero (l : List UInt8) (hne : cut0 l = []) : Dec [48] (dv l) := by
  refine ⟨rfl, ?_⟩
  rw [← dv_cut0 l, hne]; rfl

/-- Output of decimal digits: E are the digits that are made, x is what is left of the number u. -/
structure Out (u x : Nat) (E : List Nat) : Prop where
  digs : dig 10 E
  value : u = x * 10 ^ E.length + lv 10 E
theorem Out.step {u x : Nat} {E : List Nat} (h : Out u x E) : Out u (x / 10) (E ++ [x % 10]) := by
  refine ⟨dig_append h.digs (dig_cons (Nat.mod_lt _ (by omega)) (dig_nil _)), ?_⟩
  rw [h.value, lv_snoc, List.length_append, List.length_singleton, Nat.pow_succ]
  have h1 := Nat.div_add_mod x 10
  generalize x / 10 = a at *
  generalize x % 10 = b at *
  generalize 10 ^ E.length = p at *
  generalize lv 10 E = z at *
  grind
theorem Out.bound {u x n : Nat} {E : List Nat} (h : Out u x E) (hx : 0 < x) (hn : u < 4294967296 ^ n) : E.length + 1 ≤ 10 * n := by
  have h0 := h.value
  have h1 : 1 * 10 ^ E.length ≤ x * 10 ^ E.length := Nat.mul_le_mul_right _ hx
  have h2 : 4294967296 ^ n ≤ (10 ^ 10) ^ n := Nat.pow_le_pow_left (by decide) n
  rw [← Nat.pow_mul] at h2
  have h3 : 10 ^ E.length < 10 ^ (10 * n) := by omega
  have := (Nat.pow_lt_pow_iff_right (a := 10) (by omega)).1 h3
  omega
/-- The rest of a division by 10^9 is written, k digits are still to come. -/
theorem rest_step {y r k : Nat} (hr : r < 10 ^ (k + 1)) : (y * 10 ^ (k + 1) + r) / 10 = y * 10 ^ k + r / 10 ∧ (y * 10 ^ (k + 1) + r) % 10 = r % 10 ∧ r / 10 < 10 ^ k := by
  rw [Nat.pow_succ, ← Nat.mul_assoc] at *
  refine ⟨by omega, by omega, by omega⟩
theorem drop_fill (n : Nat) (E : List Nat) (z : Nat) : (List.replicate n z ++ E).drop n = E := by
  rw [List.drop_left' (by simp)]

theorem bytesOf_drop (l : List Nat) (i : Nat) (h : i < l.length) :
    (bytesOf (l.drop (i + 1))).reverse ++ [l.getD i 0 / 16777216 % 256, l.getD i 0 / 65536 % 256, l.getD i 0 / 256 % 256, l.getD i 0 % 256] = (bytesOf (l.drop i)).reverse := by
  rw [List.drop_eq_getElem_cons h, getD_lt _ _ h]
  simp [bytesOf]

end Nd

/- Part Math3. -/

namespace Nd
theorem SubM.last {U V L : List Nat} {o q m c : Nat} (h : SubM U V o q m c L) (hm : V.length = m) (ho : o + m < U.length) (d b : Nat) (hd : d < 4294967296) (hb : d + c = U.getD (o + m) 0 + 4294967296 * b) :
    (L.set (o + m) d).length = U.length ∧ dig 4294967296 (L.set (o + m) d) ∧ (∀ j, (j < o ∨ o + (m + 1) ≤ j) → (L.set (o + m) d).getD j 0 = U.getD j 0) ∧
      win 4294967296 (L.set (o + m) d) o (m + 1) + q * lv 4294967296 V = win 4294967296 U o (m + 1) + 4294967296 ^ (m + 1) * b := by
  have h1 := h.value
  rw [List.take_of_length_le (by omega)] at h1
  refine ⟨by simpa using h.len, dig_set h.digs _ _ hd, fun j hj => ?_, ?_⟩
  · rw [getD_set_ne (by omega)]
    exact h.other j (by omega)
  · have h2 : 4294967296 ^ m * (d + c) = 4294967296 ^ m * (U.getD (o + m) 0 + 4294967296 * b) := by rw [hb]
    rw [win, win, win_set_out _ _ _ _ _ _ (by omega), getD_set_eq (by rw [h.len]; exact ho), Nat.pow_succ, Nat.mul_assoc]
    simp only [Nat.mul_add] at h2
    omega
theorem AddM.last {U V L : List Nat} {o m c : Nat} (h : AddM U V o m c L) (hm : V.length = m) (ho : o + m < U.length) (d b : Nat) (hd : d < 4294967296) (hb : c + U.getD (o + m) 0 = d + 4294967296 * b) :
    (L.set (o + m) d).length = U.length ∧ dig 4294967296 (L.set (o + m) d) ∧ (∀ j, (j < o ∨ o + (m + 1) ≤ j) → (L.set (o + m) d).getD j 0 = U.getD j 0) ∧
      win 4294967296 (L.set (o + m) d) o (m + 1) + 4294967296 ^ (m + 1) * b = win 4294967296 U o (m + 1) + lv 4294967296 V := by
  have h1 := h.value
  rw [List.take_of_length_le (by omega)] at h1
  refine ⟨by simpa using h.len, dig_set h.digs _ _ hd, fun j hj => ?_, ?_⟩
  · rw [getD_set_ne (by omega)]
    exact h.other j (by omega)
  · have h2 : 4294967296 ^ m * (c + U.getD (o + m) 0) = 4294967296 ^ m * (d + 4294967296 * b) := by rw [hb]
    rw [win, win, win_set_out _ _ _ _ _ _ (by omega), getD_set_eq (by rw [h.len]; exact ho), Nat.pow_succ, Nat.mul_assoc]
    simp only [Nat.mul_add] at h2
    omega
/-- The digit fits: nothing is borrowed. -/
theorem digit_fits {W V q g X : Nat} (q2 : q ≤ g) (hv : 0 < V) (h : X + g * V = W) (hq : q = W / V) : g = q ∧ X = W % V := by
  have h1 : g ≤ W / V := (Nat.le_div_iff_mul_le hv).2 (by omega)
  have h2 : g = q := by omega
  refine ⟨h2, ?_⟩
  have h3 := Nat.div_add_mod W V
  rw [← hq, ← h2, Nat.mul_comm] at h3
  omega
/-- The digit is too great by one: what was borrowed comes back. -/
theorem digit_over {W V q g X P : Nat} (q2 : q ≤ g) (q3 : g ≤ q + 1) (hX : X < P) (h : X + g * V = W + P) (hq : q = W / V) : g = q + 1 ∧ X + V = P + W % V := by
  have h3 := Nat.div_add_mod W V
  rw [← hq, Nat.mul_comm] at h3
  by_cases h4 : g = q
  · rw [h4] at h; omega
  · have h5 : g = q + 1 := by omega
    refine ⟨h5, ?_⟩
    rw [h5, Nat.add_mul, Nat.one_mul] at h
    omega
theorem digit_back {W V X Y P b : Nat} (hVP : V ≤ P) (hv : 0 < V) (hY : Y < P) (h1 : X + V = P + W % V) (h2 : Y + P * b = X + V) : Y = W % V := by
  have h3 := Nat.mod_lt W hv
  have h4 : b = 1 := by
    rcases Nat.lt_trichotomy b 1 with h | h | h
    · rw [show b = 0 by omega] at h2; simp at h2; omega
    · exact h
    · have : P * 2 ≤ P * b := Nat.mul_le_mul_left _ h
      omega
  subst h4
  omega

theorem shr_digit {B p c a b : Nat} (hpc : p * c = B) (hp : 0 < p) (ha : a < B) : (b * B + a) / p % B * p + a % p = a + B * (b % p) := by
  have hc : 0 < c := by
    apply Classical.byContradiction
    intro h
    rw [show c = 0 by omega] at hpc; simp at hpc; omega
  have h1 : (b * B + a) / p = b * c + a / p := by
    rw [← hpc, Nat.mul_left_comm, Nat.mul_add_div hp]
  have h2 : a / p < c := (Nat.div_lt_iff_lt_mul hp).2 (by rw [Nat.mul_comm]; omega)
  have h3 : b * c = b / p * B + b % p * c := by
    conv => lhs; rw [← Nat.div_add_mod b p, Nat.add_mul]
    rw [← hpc]; congr 1
    rw [Nat.mul_comm p, Nat.mul_assoc]
  have h4 : b % p * c + a / p < B := by
    have h5 : b % p * c ≤ (p - 1) * c := Nat.mul_le_mul_right _ (by have := Nat.mod_lt b hp; omega)
    have h6 : (p - 1) * c + c = B := by rw [← Nat.succ_mul, ← hpc]; congr 1; omega
    omega
  have h7 : (b * c + a / p) % B = b % p * c + a / p := by
    rw [h3, Nat.add_assoc, Nat.mul_comm (b / p), Nat.mul_add_mod, Nat.mod_eq_of_lt h4]
  rw [h1, h7, Nat.add_mul]
  have h8 := Nat.div_add_mod a p
  have h9 : b % p * c * p = B * (b % p) := by rw [← hpc, Nat.mul_assoc, Nat.mul_comm c, Nat.mul_comm]
  rw [Nat.mul_comm (a / p)]
  omega
/-- Digit by digit, a number divided by a power of two below the base. -/
structure ShrI (L : List Nat) (p n i : Nat) (R : List Nat) : Prop where
  len : R.length = n
  digs : dig 4294967296 R
  value : win 4294967296 R 0 i * p + L.getD 0 0 % p = win 4294967296 L 0 i + 4294967296 ^ i * (L.getD i 0 % p)
theorem ShrI.start (L : List Nat) (p n : Nat) : ShrI L p n 0 (List.replicate n 0) := ⟨by simp, dig_replicate (by omega) _, by simp [win]⟩
theorem ShrI.step {L R : List Nat} {p c n i a b : Nat} (h : ShrI L p n i R) (hpc : p * c = 4294967296) (hp : 0 < p) (hi : i < n) (ha : L.getD i 0 = a) (hb : L.getD (i + 1) 0 = b) (hal : a < 4294967296) :
    ShrI L p n (i + 1) (R.set i ((b * 4294967296 + a) / p % 4294967296)) := by
  refine ⟨by simpa using h.len, dig_set h.digs _ _ (Nat.mod_lt _ (by omega)), ?_⟩
  have h1 := h.value
  have h2 := shr_digit (b := b) hpc hp hal
  rw [win, win, win_set_out _ _ _ _ _ _ (by omega), Nat.zero_add, getD_set_eq (by rw [h.len]; exact hi), ha, hb, Nat.pow_succ]
  rw [ha] at h1
  generalize (b * 4294967296 + a) / p % 4294967296 = r at *
  generalize 4294967296 ^ i = P at *
  have h3 : P * (r * p + a % p) = P * (a + 4294967296 * (b % p)) := by rw [h2]
  rw [Nat.mul_add, Nat.mul_add, ← Nat.mul_assoc, ← Nat.mul_assoc] at h3
  rw [Nat.add_mul]
  omega
theorem ShrI.done {L R : List Nat} {p n r : Nat} (h : ShrI L p n n R) (hp : 0 < p) (hz : L.getD n 0 = 0) (hL : win 4294967296 L 0 n = r * p) : lv 4294967296 R = r := by
  have h1 := h.value
  rw [hz, hL] at h1
  simp only [Nat.zero_mod, Nat.mul_zero, Nat.add_zero] at h1
  rw [win_take, List.take_of_length_le (by rw [h.len]; exact Nat.le_refl _)] at h1
  have h2 := Nat.mod_lt (L.getD 0 0) hp
  generalize lv 4294967296 R = z at *
  generalize L.getD 0 0 % p = y at *
  rcases Nat.lt_trichotomy z r with h3 | h3 | h3
  · have : (z + 1) * p ≤ r * p := Nat.mul_le_mul_right _ h3
    rw [Nat.add_mul, Nat.one_mul] at this
    omega
  · exact h3
  · have : (r + 1) * p ≤ z * p := Nat.mul_le_mul_right _ h3
    rw [Nat.add_mul, Nat.one_mul] at this
    omega
end Nd
namespace Nd

/-! ### rational numbers: the lowest terms -/
/-- The number n / d, or its negative. -/
def sq (neg : Bool) (n d : Nat) : Rat := mkRat (if neg then -(n : Int) else (n : Int)) d

theorem sq_num_den {neg : Bool} {n d : Nat} (hd : d ≠ 0) (hg : Nat.gcd n d = 1) :
    (sq neg n d).num = (if neg then -(n : Int) else (n : Int)) ∧ (sq neg n d).den = d := by
  unfold sq
  have h1 : Nat.gcd d (if neg then -(n : Int) else (n : Int)).natAbs = 1 := by
    cases neg <;> simp [Nat.gcd_comm d n, hg]
  rw [Rat.num_mkRat, Rat.den_mkRat, h1, if_neg hd, if_neg hd]
  simp

theorem sq_mul {neg : Bool} {n d k : Nat} (hk : k ≠ 0) : sq neg (k * n) (k * d) = sq neg n d := by
  unfold sq
  rw [← Rat.mkRat_mul_left (n := if neg then -(n : Int) else (n : Int)) (d := d) hk]
  cases neg <;> simp [Int.mul_neg]

theorem sq_lowest {neg : Bool} {n d : Nat} (hd : d ≠ 0) : sq neg (n / Nat.gcd n d) (d / Nat.gcd n d) = sq neg n d := by
  have h0 : Nat.gcd n d ≠ 0 := Nat.gcd_ne_zero_right hd
  have h1 : Nat.gcd n d * (n / Nat.gcd n d) = n := Nat.mul_div_cancel' (Nat.gcd_dvd_left n d)
  have h2 : Nat.gcd n d * (d / Nat.gcd n d) = d := Nat.mul_div_cancel' (Nat.gcd_dvd_right n d)
  have h3 := sq_mul (neg := neg) (n := n / Nat.gcd n d) (d := d / Nat.gcd n d) h0
  rw [h1, h2] at h3
  exact h3.symm

theorem lowest_gcd {n d : Nat} (hd : d ≠ 0) : Nat.gcd (n / Nat.gcd n d) (d / Nat.gcd n d) = 1 :=
  Nat.gcd_div_gcd_div_gcd_of_pos_right (Nat.pos_of_ne_zero hd)
theorem lowest_den {n d : Nat} (hd : d ≠ 0) : d / Nat.gcd n d ≠ 0 := by
  have h0 : 0 < Nat.gcd n d := Nat.pos_of_ne_zero (Nat.gcd_ne_zero_right hd)
  have h1 := Nat.div_pos (Nat.le_of_dvd (Nat.pos_of_ne_zero hd) (Nat.gcd_dvd_right n d)) h0
  omega

theorem sq_zero (neg : Bool) (d : Nat) : sq neg 0 d = 0 := by unfold sq; cases neg <;> simp
theorem sq_self (q : Rat) : sq (decide (q.num < 0)) q.num.natAbs q.den = q := by
  unfold sq
  have : (if decide (q.num < 0) = true then -(q.num.natAbs : Int) else (q.num.natAbs : Int)) = q.num := by
    by_cases h : q.num < 0 <;> simp [h] <;> omega
  rw [this]; exact Rat.mkRat_self q

theorem sq_eq_iff {a b : Bool} {n m d e : Nat} (hd : d ≠ 0) (he : e ≠ 0) : sq a n d = sq b m e ↔ (if a then -(n : Int) else (n : Int)) * e = (if b then -(m : Int) else (m : Int)) * d := by
  unfold sq; exact Rat.mkRat_eq_iff hd he

theorem sq_neg (a : Bool) (n d : Nat) : - sq a n d = sq (!a) n d := by
  unfold sq; rw [Rat.neg_mkRat]; cases a <;> simp

theorem sgn_mul (a b : Bool) (n m : Nat) : (if a then -(n : Int) else (n : Int)) * (if b then -(m : Int) else (m : Int)) = if a != b then -((n * m : Nat) : Int) else ((n * m : Nat) : Int) := by
  cases a <;> cases b <;> simp [Int.neg_mul, Int.mul_neg]
theorem sq_prod (a b : Bool) (n m d e : Nat) : sq a n d * sq b m e = sq (a != b) (n * m) (d * e) := by
  unfold sq; rw [Rat.mkRat_mul_mkRat, sgn_mul]

theorem sgn_add_same (a : Bool) (x y : Nat) : (if a then -(x : Int) else (x : Int)) + (if a then -(y : Int) else (y : Int)) = if a then -((x + y : Nat) : Int) else ((x + y : Nat) : Int) := by
  cases a <;> simp <;> omega
theorem sgn_scale (a : Bool) (x y : Nat) : (if a then -(x : Int) else (x : Int)) * (y : Int) = if a then -((x * y : Nat) : Int) else ((x * y : Nat) : Int) := by
  cases a <;> simp [Int.neg_mul]
theorem sq_add (a b : Bool) {n m d e : Nat} (hd : d ≠ 0) (he : e ≠ 0) : sq a n d + sq b m e = mkRat ((if a then -((n * e : Nat) : Int) else ((n * e : Nat) : Int)) + (if b then -((m * d : Nat) : Int) else ((m * d : Nat) : Int))) (d * e) := by
  unfold sq; rw [Rat.mkRat_add_mkRat _ _ hd he, sgn_scale, sgn_scale]
/-- The sum of two numbers over a common denominator. -/
theorem sq_common (a b : Bool) {n m d : Nat} (hd : d ≠ 0) : sq a n d + sq b m d = mkRat ((if a then -(n : Int) else (n : Int)) + (if b then -(m : Int) else (m : Int))) d := by
  unfold sq; rw [Rat.mkRat_add_mkRat _ _ hd hd, ← Int.add_mul]
  exact Rat.mkRat_mul_right (by omega)
theorem sq_expand (a : Bool) (n d : Nat) {k : Nat} (hk : k ≠ 0) : sq a (n * k) (d * k) = sq a n d := by
  rw [Nat.mul_comm n, Nat.mul_comm d]; exact sq_mul hk
theorem sum_same (a : Bool) {x y d : Nat} (hd : d ≠ 0) : sq a x d + sq a y d = sq a (x + y) d := by
  rw [sq_common a a hd, sgn_add_same]; rfl
theorem sum_ge (a b : Bool) {x y d : Nat} (hd : d ≠ 0) (hab : a ≠ b) (h : y ≤ x) : sq a x d + sq b y d = sq a (x - y) d := by
  rw [sq_common a b hd]; unfold sq
  congr 1
  cases a <;> cases b <;> simp at hab ⊢ <;> omega
theorem sum_lt (a b : Bool) {x y d : Nat} (hd : d ≠ 0) (hab : a ≠ b) (h : x ≤ y) : sq a x d + sq b y d = sq b (y - x) d := by
  rw [Rat.add_comm]; exact sum_ge b a hd (fun h => hab h.symm) h

theorem sq_num_nonneg (q : Rat) : (q.num < 0) ↔ q < 0 := by
  rw [Rat.lt_iff]; simp
/-- The sign of a rational number, as -1, 0 or 1. -/
def sg (q : Rat) : Int := if q < 0 then -1 else if q = 0 then 0 else 1
/-- The order of two rational numbers. -/
def qo (p q : Rat) : Int := sg (p - q)
theorem qo_lt {p q : Rat} (h : p < q) : qo p q = -1 := by unfold qo sg; rw [if_pos]; grind
theorem qo_gt {p q : Rat} (h : q < p) : qo p q = 1 := by unfold qo sg; rw [if_neg (by grind), if_neg (by grind)]
theorem qo_eq {p q : Rat} (h : p = q) : qo p q = 0 := by unfold qo sg; rw [if_neg (by grind), if_pos (by grind)]

theorem lt_sq {a b : Bool} {x y d : Nat} (hd : d ≠ 0) : sq a x d < sq b y d ↔ (if a then -(x : Int) else (x : Int)) < (if b then -(y : Int) else (y : Int)) := by
  unfold sq
  rw [Rat.mkRat_eq_div, Rat.mkRat_eq_div]
  have hp : (0 : Rat) < (d : Rat) := by exact_mod_cast Nat.pos_of_ne_zero hd
  rw [Rat.div_lt_iff hp, Rat.div_mul_cancel (by grind)]
  exact Rat.intCast_lt_intCast

theorem qo_same {x y d : Nat} (hd : d ≠ 0) : qo (sq false x d) (sq false y d) = ord x y := by
  rcases Nat.lt_trichotomy x y with h | h | h
  · rw [ord_lt h, qo_lt]; rw [lt_sq hd]; simp; omega
  · rw [ord_eq h, qo_eq]; rw [h]
  · rw [ord_gt h, qo_gt]; rw [lt_sq hd]; simp; omega
theorem qo_same_neg {x y d : Nat} (hd : d ≠ 0) : qo (sq true x d) (sq true y d) = ord y x := by
  rcases Nat.lt_trichotomy x y with h | h | h
  · rw [ord_gt h, qo_gt]; rw [lt_sq hd]; simp; omega
  · rw [ord_eq h.symm, qo_eq]; rw [h]
  · rw [ord_lt h, qo_lt]; rw [lt_sq hd]; simp; omega
theorem sq_lt_zero {x d : Nat} (hd : d ≠ 0) (hx : x ≠ 0) : sq true x d < 0 := by
  rw [← sq_zero false d, lt_sq hd]; simp; omega
theorem sq_ge_zero {x d : Nat} (hd : d ≠ 0) : 0 ≤ sq false x d := by
  rw [← Rat.not_lt, ← sq_zero false d, lt_sq hd]; simp
theorem qo_neg_pos {x y d e : Nat} (hd : d ≠ 0) (he : e ≠ 0) (hx : x ≠ 0) : qo (sq true x d) (sq false y e) = -1 :=
  qo_lt (by have h1 := sq_lt_zero hd hx; have h2 := sq_ge_zero (x := y) he; grind)
theorem qo_pos_neg {x y d e : Nat} (hd : d ≠ 0) (he : e ≠ 0) (hy : y ≠ 0) : qo (sq false x d) (sq true y e) = 1 :=
  qo_gt (by have h1 := sq_lt_zero he hy; have h2 := sq_ge_zero (x := x) hd; grind)

/-! ### bounds -/
/-- The numerator and the denominator have at most k bytes. -/
def Bd (k : Nat) (q : Rat) : Prop := q.num.natAbs < 256 ^ k ∧ q.den < 256 ^ k
theorem Bd_zero : Bd 1 0 := by constructor <;> decide
theorem Bd.mono {k l : Nat} {q : Rat} (h : Bd k q) (hl : k ≤ l) : Bd l q :=
  ⟨Nat.lt_of_lt_of_le h.1 (Nat.pow_le_pow_right (by omega) hl), Nat.lt_of_lt_of_le h.2 (Nat.pow_le_pow_right (by omega) hl)⟩
theorem Bd_sq {k : Nat} {neg : Bool} {n d : Nat} (hd : d ≠ 0) (h1 : n < 256 ^ k) (h2 : d < 256 ^ k) : Bd k (sq neg n d) := by
  rw [← sq_lowest hd]
  obtain ⟨h3, h4⟩ := sq_num_den (neg := neg) (lowest_den (n := n) hd) (lowest_gcd hd)
  constructor
  · rw [h3]
    have : n / Nat.gcd n d ≤ n := Nat.div_le_self _ _
    generalize n / Nat.gcd n d = y at this ⊢
    have e : (if neg = true then -(y : Int) else (y : Int)).natAbs = y := by cases neg <;> simp
    rw [e]; omega
  · rw [h4]
    have : d / Nat.gcd n d ≤ d := Nat.div_le_self _ _
    omega
theorem Bd.neg {k : Nat} {q : Rat} (h : Bd k q) : Bd k (-q) := by
  constructor
  · rw [Rat.neg_num, Int.natAbs_neg]; exact h.1
  · rw [Rat.neg_den]; exact h.2
theorem mul_lt_pow {x y k l : Nat} (h1 : x < 256 ^ k) (h2 : y < 256 ^ l) : x * y < 256 ^ (k + l) := by
  rw [Nat.pow_add]
  exact Nat.mul_lt_mul_of_lt_of_lt h1 h2
theorem add_lt_pow {x y k : Nat} (h1 : x < 256 ^ k) (h2 : y < 256 ^ k) : x + y < 256 ^ (k + 1) := by
  rw [Nat.pow_succ]; omega
theorem Bd.mul {k l : Nat} {p q : Rat} (h : Bd k p) (g : Bd l q) : Bd (k + l) (p * q) := by
  rw [← sq_self p, ← sq_self q, sq_prod]
  exact Bd_sq (Nat.mul_ne_zero p.den_nz q.den_nz) (mul_lt_pow h.1 g.1) (mul_lt_pow h.2 g.2)
theorem Bd.add {k l : Nat} {p q : Rat} (h : Bd k p) (g : Bd l q) : Bd (k + l + 1) (p + q) := by
  have hne := Nat.mul_ne_zero p.den_nz q.den_nz
  have hm : p.num.natAbs * q.den + q.num.natAbs * p.den < 256 ^ (k + l + 1) :=
    add_lt_pow (mul_lt_pow h.1 g.2) (by rw [Nat.mul_comm]; exact mul_lt_pow h.2 g.1)
  have hd : p.den * q.den < 256 ^ (k + l + 1) := Nat.lt_of_lt_of_le (mul_lt_pow h.2 g.2) (Nat.pow_le_pow_right (by omega) (by omega))
  have key : ∃ (c : Bool) (z : Nat), p + q = sq c z (p.den * q.den) ∧ z ≤ p.num.natAbs * q.den + q.num.natAbs * p.den := by
    refine ⟨decide (p.num * q.den + q.num * p.den < 0), (p.num * q.den + q.num * p.den).natAbs, ?_, ?_⟩
    · rw [Rat.add_def']; unfold sq
      congr 1
      by_cases h : p.num * q.den + q.num * p.den < 0 <;> simp [h] <;> omega
    · refine Nat.le_trans (Int.natAbs_add_le _ _) ?_
      rw [Int.natAbs_mul, Int.natAbs_mul]; simp
  obtain ⟨c, z, e, hz⟩ := key
  rw [e]
  exact Bd_sq hne (by omega) hd
theorem Bd.sub {k l : Nat} {p q : Rat} (h : Bd k p) (g : Bd l q) : Bd (k + l + 1) (p - q) := by
  rw [Rat.sub_eq_add_neg]; exact h.add g.neg
end Nd
namespace Nd
theorem coprime_cross {n m d e : Nat} (hd : d ≠ 0) (he : e ≠ 0) (h1 : Nat.gcd n d = 1) (h2 : Nat.gcd m e = 1) :
    Nat.gcd (n / Nat.gcd n e * (m / Nat.gcd m d)) (d / Nat.gcd m d * (e / Nat.gcd n e)) = 1 := by
  have c1 : Nat.Coprime (n / Nat.gcd n e) (e / Nat.gcd n e) := lowest_gcd he
  have c2 : Nat.Coprime (m / Nat.gcd m d) (d / Nat.gcd m d) := lowest_gcd hd
  have a1 : n / Nat.gcd n e ∣ n := Nat.div_dvd_of_dvd (Nat.gcd_dvd_left n e)
  have a2 : e / Nat.gcd n e ∣ e := Nat.div_dvd_of_dvd (Nat.gcd_dvd_right n e)
  have a3 : m / Nat.gcd m d ∣ m := Nat.div_dvd_of_dvd (Nat.gcd_dvd_left m d)
  have a4 : d / Nat.gcd m d ∣ d := Nat.div_dvd_of_dvd (Nat.gcd_dvd_right m d)
  have c3 : Nat.Coprime (n / Nat.gcd n e) (d / Nat.gcd m d) := Nat.Coprime.coprime_dvd_left a1 (Nat.Coprime.coprime_dvd_right a4 h1)
  have c4 : Nat.Coprime (m / Nat.gcd m d) (e / Nat.gcd n e) := Nat.Coprime.coprime_dvd_left a3 (Nat.Coprime.coprime_dvd_right a2 h2)
  exact Nat.Coprime.mul_left (Nat.Coprime.mul_right c3 c1) (Nat.Coprime.mul_right c2 c4)
theorem sq_cross (a b : Bool) {n m d e : Nat} (hd : d ≠ 0) (he : e ≠ 0) :
    sq (a != b) (n / Nat.gcd n e * (m / Nat.gcd m d)) (d / Nat.gcd m d * (e / Nat.gcd n e)) = sq a n d * sq b m e := by
  rw [sq_prod]
  have g1 : Nat.gcd n e ≠ 0 := Nat.gcd_ne_zero_right he
  have g2 : Nat.gcd m d ≠ 0 := Nat.gcd_ne_zero_right hd
  have e1 : Nat.gcd n e * (n / Nat.gcd n e) = n := Nat.mul_div_cancel' (Nat.gcd_dvd_left n e)
  have e2 : Nat.gcd n e * (e / Nat.gcd n e) = e := Nat.mul_div_cancel' (Nat.gcd_dvd_right n e)
  have e3 : Nat.gcd m d * (m / Nat.gcd m d) = m := Nat.mul_div_cancel' (Nat.gcd_dvd_left m d)
  have e4 : Nat.gcd m d * (d / Nat.gcd m d) = d := Nat.mul_div_cancel' (Nat.gcd_dvd_right m d)
  generalize Nat.gcd n e = g at *
  generalize Nat.gcd m d = k at *
  generalize n / g = n1 at *
  generalize e / g = e5 at *
  generalize m / k = m1 at *
  generalize d / k = d1 at *
  have h1 : n * m = g * k * (n1 * m1) := by rw [← e1, ← e3]; grind
  have h2 : d * e = g * k * (d1 * e5) := by rw [← e2, ← e4]; grind
  rw [h1, h2, sq_mul (Nat.mul_ne_zero g1 g2)]
theorem sq_inv {a : Bool} {n d : Nat} (hd : d ≠ 0) (hn : n ≠ 0) : sq a d n = (sq a n d)⁻¹ := by
  have h1 : sq a n d * sq a d n = 1 := by
    rw [sq_prod, Nat.mul_comm d n]
    have : (a != a) = false := by cases a <;> rfl
    rw [this]
    unfold sq
    simp only [Bool.false_eq_true, if_false]
    rw [Rat.mkRat_eq_div]
    have hne : ((n * d : Nat) : Rat) ≠ 0 := by
      rw [Ne, Rat.natCast_eq_zero_iff]; exact Nat.mul_ne_zero hn hd
    show ((n * d : Nat) : Rat) / ((n * d : Nat) : Rat) = 1
    rw [Rat.div_def, Rat.mul_inv_cancel _ hne]
  exact (Rat.inv_eq_of_mul_eq_one h1).symm
theorem sq_eq_zero {a : Bool} {n d : Nat} (hd : d ≠ 0) : sq a n d = 0 ↔ n = 0 := by
  unfold sq; rw [Rat.mkRat_eq_zero hd]; cases a <;> simp <;> omega
theorem sq_div (a b : Bool) {n m d e : Nat} (hm : m ≠ 0) (he : e ≠ 0) : sq (a != b) (n * e) (d * m) = sq a n d / sq b m e := by
  rw [Rat.div_def, ← sq_inv he hm, sq_prod]
/-- The greatest integer that is not greater. -/
def flo (q : Rat) : Rat := ((q.floor : Int) : Rat)
theorem sq_int (a : Bool) (n : Nat) : sq a n 1 = ((if a then -(n : Int) else (n : Int) : Int) : Rat) := by
  unfold sq; rw [Rat.mkRat_eq_div]
  show _ / (1 : Rat) = _
  rw [Rat.div_def, show (1 : Rat)⁻¹ = 1 from Rat.inv_eq_of_mul_eq_one (Rat.mul_one 1), Rat.mul_one]
theorem flo_sq {a : Bool} {n d k : Nat} (hd : d ≠ 0) (h : k = if a && decide (n % d ≠ 0) then n / d + 1 else n / d) : sq a k 1 = flo (sq a n d) := by
  subst h
  unfold flo
  rw [sq_int]
  congr 1
  have h0 : (sq a n d).floor = (if a then -(n : Int) else (n : Int)) / (d : Int) := by
    rw [← sq_lowest hd]
    obtain ⟨e1, e2⟩ := sq_num_den (neg := a) (lowest_den (n := n) hd) (lowest_gcd hd)
    rw [Rat.floor_def, e1, e2]
    have g1 : Nat.gcd n d ≠ 0 := Nat.gcd_ne_zero_right hd
    have f1 : Nat.gcd n d * (n / Nat.gcd n d) = n := Nat.mul_div_cancel' (Nat.gcd_dvd_left n d)
    have f2 : Nat.gcd n d * (d / Nat.gcd n d) = d := Nat.mul_div_cancel' (Nat.gcd_dvd_right n d)
    clear e1 e2
    generalize Nat.gcd n d = g at *
    generalize n / g = n1 at *
    generalize d / g = d1 at *
    rw [← f1, ← f2]
    have g2 : (0 : Int) < (g : Int) := by omega
    cases a
    · simp only [Bool.false_eq_true, if_false, Int.natCast_mul]
      rw [Int.mul_ediv_mul_of_pos _ _ g2]
    · simp only [if_true, Int.natCast_mul]
      rw [← Int.mul_neg, Int.mul_ediv_mul_of_pos _ _ g2]
  rw [h0]
  cases a
  · simp
  · simp only [if_true, Bool.true_and]
    have h1 := Nat.div_add_mod n d
    by_cases h2 : n % d = 0
    · simp only [h2, ne_eq, not_true, decide_false, Bool.false_eq_true, if_false]
      rw [h2, Nat.add_zero] at h1
      conv => rhs; rw [← h1]
      rw [Int.natCast_mul, ← Int.mul_neg, Int.mul_ediv_cancel_left _ (by omega)]
    · simp only [h2, ne_eq, not_false_eq_true, decide_true, if_true]
      have h3 := Nat.mod_lt n (Nat.pos_of_ne_zero hd)
      symm
      refine (Int.ediv_emod_unique (b := (d : Int)) (r := (d : Int) - (n % d : Nat)) (by omega)).2 ⟨?_, by omega, by omega⟩ |>.1
      conv => rhs; rw [← h1]
      generalize n / d = k
      generalize n % d = r
      push_cast
      grind
end Nd
namespace Nd
/-- The decimal digits of n. -/
def decAux : Nat → Nat → List UInt8
  | 0, _ => []
  | f + 1, n => if n = 0 then [] else decAux f (n / 10) ++ [UInt8.ofNat (48 + n % 10)]
def decL (n : Nat) : List UInt8 := if n = 0 then [48] else decAux n n
theorem decAux_is : ∀ (f n : Nat), n ≤ f → dv (decAux f n) = n ∧ (decAux f n).all isD = true ∧ (decAux f n).head? ≠ some 48
  | 0, n, h => by
    have : n = 0 := by omega
    subst this; exact ⟨rfl, rfl, by simp [decAux]⟩
  | f + 1, n, h => by
    unfold decAux
    split
    · rename_i h0; rw [h0]; exact ⟨rfl, rfl, by simp⟩
    · rename_i h0
      obtain ⟨h1, h2, h3⟩ := decAux_is f (n / 10) (by omega)
      have e : (UInt8.ofNat (48 + n % 10)).toNat = 48 + n % 10 := UInt8.toNat_ofNat_of_lt' (by have := Nat.mod_lt n (show 0 < 10 by omega); simp [UInt8.size]; omega)
      refine ⟨?_, ?_, ?_⟩
      · rw [dv_snoc, h1, e]; omega
      · rw [List.all_append, h2]
        simp [isD]; omega
      · cases hL : decAux f (n / 10) with
        | nil =>
          rw [hL] at h1
          simp at h1
          simp only [List.nil_append, List.head?_cons]
          intro hc
          have := congrArg (fun o => (o.getD 0).toNat) hc
          simp only [Option.getD_some, e] at this
          simp at this
          omega
        | cons x l => rw [hL] at h3; simpa using h3
theorem Dec_decL (n : Nat) : Dec (decL n) n := by
  unfold decL
  split
  · rename_i h; rw [h]; exact ⟨by decide, by decide⟩
  · rename_i h
    obtain ⟨h1, h2, h3⟩ := decAux_is n n (Nat.le_refl n)
    refine ⟨?_, h1⟩
    unfold canD
    rw [h2]
    have hne : decAux n n ≠ [] := by intro he; rw [he] at h1; simp at h1; omega
    simp [h3, hne]
theorem decL_of {l : List UInt8} {n : Nat} (h : Dec l n) : l = decL n := Dec_unique h (Dec_decL n)
theorem Dec_canD {l : List UInt8} (h : canD l = true) : l = decL (dv l) := decL_of ⟨h, rfl⟩
theorem decL_canD (n : Nat) : canD (decL n) = true := (Dec_decL n).1
theorem decL_dv (n : Nat) : dv (decL n) = n := (Dec_decL n).2
example : decL 13 = [49, 51] := by decide
theorem decL_len {n k : Nat} (h : n < 10 ^ k) (hk : 1 ≤ k) : (decL n).length ≤ k := by
  have h1 := decL_canD n
  have h2 := decL_dv n
  apply Classical.byContradiction
  intro hc
  have h3 : decL n ≠ [48] := by intro he; rw [he] at hc; simp at hc; omega
  have h4 := canD_noz h1 h3
  have h5 := lv_ge (B := 10) (dgs (decL n)).reverse h4 (by intro he; rw [List.reverse_eq_nil_iff] at he; simp [dgs] at he; rw [he] at hc; simp at hc)
  have h6 : lv 10 (dgs (decL n)).reverse = n := h2
  rw [h6] at h5
  simp [dgs] at h5
  have h7 : 10 ^ k ≤ 10 ^ ((decL n).length - 1) := Nat.pow_le_pow_right (by omega) (by omega)
  omega
end Nd
