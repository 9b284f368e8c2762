/-
  Several parts put together: R10, R11, R12, R13.
-/
import Derived.Test.YtgdpcpbmjgaliaaGH
import Derived.Test.YtgdpcpbmjgaliaaGA
/- Part R10. -/

namespace Go.Proofs.Ytgdpcpbmjgaliaa
open Go.RowKit Nd

/-- A slice of bytes that the call makes: nil, or a row of its own. -/
inductive Own8 (w0 w : World) : Value → List Nat → Prop
  | nil : Own8 w0 w (.slice none 0 0) []
  | row (g cap : Nat) (xs : List Nat) (h : Row 5 .u8 w g cap xs) (hg : w0.heap.size ≤ g) (hne : xs ≠ []) : Own8 w0 w (.slice (some ⟨g, 0, none⟩) xs.length cap) xs

/-- i pairs of X are exchanged. -/
structure Rev (X : List Nat) (n i : Nat) (M : List Nat) : Prop where
  len : M.length = n
  out : ∀ j, j < n → (j < i ∨ n - i ≤ j) → M.getD j 0 = X.getD (n - 1 - j) 0
  mid : ∀ j, i ≤ j → j < n - i → M.getD j 0 = X.getD j 0
theorem Rev.step {X M : List Nat} {n i : Nat} (h : Rev X n i M) (hi : i < n / 2) :
    Rev X n (i + 1) ((M.set i (M.getD (n - 1 - i) 0)).set (n - 1 - i) (M.getD i 0)) := by
  have h1 := h.mid i (Nat.le_refl _) (by omega)
  have h2 := h.mid (n - 1 - i) (by omega) (by omega)
  refine ⟨by simpa using h.len, fun j hj hjj => ?_, fun j hj hjj => ?_⟩
  · by_cases e1 : j = n - 1 - i
    · subst e1
      rw [Nd.getD_set_eq (by simp [h.len]; omega), h1, show n - 1 - (n - 1 - i) = i by omega]
    · rw [Nd.getD_set_ne e1]
      by_cases e2 : j = i
      · subst e2
        rw [Nd.getD_set_eq (by rw [h.len]; omega), h2]
      · rw [Nd.getD_set_ne e2]
        exact h.out j hj (by omega)
  · rw [Nd.getD_set_ne (by omega), Nd.getD_set_ne (by omega)]
    exact h.mid j (by omega) (by omega)
theorem Rev.done {X M : List Nat} {n i : Nat} (h : Rev X n i M) (hX : X.length = n) (hi : n / 2 ≤ i) (hi2 : i ≤ n / 2) : M = X.reverse := by
  apply List.ext_getElem
  · rw [h.len]; simp [hX]
  · intro j h1 h2
    have hj : j < n := by rw [← h.len]; exact h1
    rw [List.getElem_reverse]
    have e : M.getD j 0 = X.getD (n - 1 - j) 0 := by
      by_cases hc : j < i ∨ n - i ≤ j
      · exact h.out j hj hc
      · rw [h.mid j (by omega) (by omega)]
        congr 1; omega
    rw [getD_lt _ _ h1, getD_lt _ _ (by omega)] at e
    rw [e]
    congr 1
    rw [hX]

theorem Dec_chr {E : List Nat} (dE : dig 10 E) (hne : E ≠ []) (hz : noz E) : Dec (ofNums (chr E.reverse)) (lv 10 E) := by
  have hall := ofNums_chr_all _ (dig_reverse dE)
  refine ⟨?_, by rw [dv_chr _ (dig_reverse dE), List.reverse_reverse]⟩
  obtain ⟨m, x, rfl⟩ : ∃ m x, E = m ++ [x] := ⟨E.dropLast, E.getLast hne, (dropLast_last E hne).symm⟩
  have hx : x ≠ 0 := by rintro rfl; simp [noz] at hz
  have hx10 : x < 10 := dE x (by simp)
  have hh : (ofNums (chr (m ++ [x]).reverse)).head? = some (UInt8.ofNat (x + 48)) := by simp [chr, ofNums]
  have hh2 : UInt8.ofNat (x + 48) ≠ 48 := by
    intro h
    have := congrArg UInt8.toNat h
    rw [UInt8.toNat_ofNat_of_lt' (by simp [UInt8.size]; omega)] at this
    simp at this
    omega
  simp only [canD, Bool.and_eq_true, Bool.not_eq_true', Bool.or_eq_true, decide_eq_true_eq]
  refine ⟨⟨?_, hall⟩, .inr (by rw [hh]; simpa using hh2)⟩
  cases hc : ofNums (chr (m ++ [x]).reverse) with
  | nil => rw [hc] at hh; simp at hh
  | cons => rfl

end Go.Proofs.Ytgdpcpbmjgaliaa

/- Part R11. -/

namespace Go.Proofs.Ytgdpcpbmjgaliaa
open Go.RowKit Nd

/-- A shifted left by s bits: i digits are done, the digit i holds the carry. -/
structure ShfI (A : List Nat) (s n i : Nat) (O : List Nat) : Prop where
  len : O.length = n + 1
  digs : dig 4294967296 O
  carry : O.getD i 0 < 2 ^ s
  rest : ∀ j, i < j → O.getD j 0 = 0
  value : win 4294967296 O 0 (i + 1) = lv 4294967296 (A.take i) * 2 ^ s

theorem shf_nat {B a p o hi lo V L P : Nat} (hv : V + P * o = L * p) (hx : hi * B + lo = a * p) : V + P * (lo + o) + P * B * hi = (L + P * a) * p := by
  grind

theorem ShfI.step {A O : List Nat} {s n i a x lo hi : Nat} (h : ShfI A s n i O) (hi' : i < n) (ha : A.getD i 0 = a) (hx : x = a * 2 ^ s) (hlo : lo = x % 4294967296) (hhi : hi = x / 4294967296)
    (hsum : lo + O.getD i 0 < 4294967296) (hh : hi < 2 ^ s) (hs : s ≤ 32) :
    ShfI A s n (i + 1) ((O.set i (lo + O.getD i 0)).set (i + 1) hi) := by
  have hl := h.len
  have hp : 2 ^ s ≤ 2 ^ 32 := Nat.pow_le_pow_right (by omega) hs
  refine ⟨by simp [hl], dig_set (dig_set h.digs _ _ hsum) _ _ (by omega), by rw [Nd.getD_set_eq (by simp [hl]; omega)]; exact hh, fun j hj => ?_, ?_⟩
  · rw [Nd.getD_set_ne (by omega), Nd.getD_set_ne (by omega)]; exact h.rest j (by omega)
  · have hv := h.value
    rw [win, Nat.zero_add] at hv
    rw [win, win, Nat.zero_add, Nat.zero_add, win_set_out _ _ _ _ _ _ (by omega), win_set_out _ _ _ _ _ _ (by omega), Nd.getD_set_eq (by simp [hl]; omega), Nd.getD_set_ne (by omega), Nd.getD_set_eq (by omega), lv_take_step, ha, Nat.pow_succ]
    exact shf_nat hv (by rw [hhi, hlo, ← hx]; omega)
theorem ShfI.done {A O : List Nat} {s n : Nat} (h : ShfI A s n n O) (hA : A.length = n) : lv 4294967296 O = lv 4294967296 A * 2 ^ s := by
  have := h.value
  rw [List.take_of_length_le (by omega), ← h.len, win_all] at this
  exact this
theorem ShfI.start (A : List Nat) (s n : Nat) : ShfI A s n 0 (List.replicate (n + 1) 0) := by
  refine ⟨by simp, dig_replicate (by omega) _, by simp [List.getD]; exact Nat.two_pow_pos s, fun j _ => ?_, by simp [win, List.getD]⟩
  simp [List.getD, List.getElem?_replicate]
  split <;> rfl

theorem shf_bits {a o s : Nat} (ha : a < 4294967296) (hs : s ≤ 31) (ho : o < 2 ^ s) :
    a * 2 ^ s ≤ 18446744073709551615 ∧ a * 2 ^ s / 4294967296 < 2 ^ s ∧ a * 2 ^ s % 4294967296 + o < 4294967296 ∧ bits BinOp.or IntKind.u32 (o : Int) ((a * 2 ^ s % 4294967296 : Nat) : Int) = ((a * 2 ^ s % 4294967296 + o : Nat) : Int) := by
  have h1 : 2 ^ s ≤ 2 ^ 31 := Nat.pow_le_pow_right (by omega) hs
  have h0 : 0 < 2 ^ s := Nat.two_pow_pos s
  have h2 : a * 2 ^ s ≤ 4294967295 * 2 ^ s := Nat.mul_le_mul_right _ (by omega)
  have h3 : 4294967296 = 2 ^ (32 - s) * 2 ^ s := by rw [← Nat.pow_add, show 32 - s + s = 32 by omega]
  have h4 : a * 2 ^ s % 4294967296 = (a % 2 ^ (32 - s)) * 2 ^ s := by
    rw [h3, Nat.mul_mod_mul_right]
  have h5 : a % 2 ^ (32 - s) < 2 ^ (32 - s) := Nat.mod_lt _ (Nat.two_pow_pos _)
  have h6 : (a % 2 ^ (32 - s) + 1) * 2 ^ s ≤ 2 ^ (32 - s) * 2 ^ s := Nat.mul_le_mul_right _ h5
  rw [Nat.succ_mul, ← h3] at h6
  rw [h4]
  refine ⟨by omega, by omega, by omega, ?_⟩
  have := or_u32' (a % 2 ^ (32 - s)) o s (by omega) (by omega) ho
  exact this

set_option maxRecDepth 20000 in
set_option maxHeartbeats 1000000 in
theorem shifted_row (g cap s : Nat) (A : List Nat) (w : World) (hA : Row 106 .u32 w g cap A) (dA : dig 4294967296 A) (la : A.length ≤ 1099511627775) (hs : s ≤ 31) :
    Calls Try.prog 112 #[.slice (some ⟨g, 0, none⟩) A.length cap, .int .u64 s] w fun e w' => ∃ (g' : Nat) (L : List Nat), e = .returned (.slice (some ⟨g', 0, none⟩) (A.length + 1) (A.length + 1)) ∧
      Row 106 .u32 w' g' (A.length + 1) L ∧ w.heap.size ≤ g' ∧ L.length = A.length + 1 ∧ dig 4294967296 L ∧ lv 4294967296 L = lv 4294967296 A * 2 ^ s ∧ Chg [] w w' := by
  obtain ⟨i0, hi, hz0, hz1, hz2⟩ := info_parts Try.info32
  obtain ⟨n, HN⟩ := name_it A.length
  have HS0 := Lib.hid (ShfI.start A s n)
  rw [HN.out] at la ⊢
  go_enter Try.func112, Try.ntmps112
  go_wp2_with (at_make; refine wpList_make_cap _ rfl (.tmp 10) (.tmp 10) 99 rfl 106 i0 .u32 Try.underlying99 hi hz0 hz1 .i64 .i64 _ _ (n + 1) (n + 1) rfl rfl (by simp) (by simp) (Nat.le_refl _) (by rw [hz2]; omega) (by omega) ?_)
  intro w1 hrow hch
  have hA1 := hA.keep hch (by simp)
  have hne : g ≠ w.heap.size := by have := hA.lt; omega
  obtain ⟨b, HB⟩ := name_it w.heap.size
  rw [HB.out] at hrow hne ⊢
  clear hi hz0 hz1 hz2 hA
  go_wp2_with fail
  go_loopw [6] (fun iv wr => ∃ (i : Nat) (O : List Nat), i ≤ n ∧ iv = .int .i64 i ∧ ShfI A s n i O ∧ Row 106 .u32 wr b (n + 1) O ∧ Row 106 .u32 wr g cap A ∧ Chg [] w wr)
    (fun iv _ => n - (intOf iv).toNat)
  case atStart => exact ⟨0, _, Nat.zero_le _, rfl, HS0.out, hrow, hA1, hch⟩
  case round =>
    clear hrow hA1 hch HS0
    obtain ⟨i, O, hin, rfl, hP, hr, hA, hch⟩ := hrel
    have hlen : Hid (O.length = n + 1) := hP.len
    by_cases hlt : i < n
    · have hca := hA.cell i (by rw [HN.out]; exact hlt)
      obtain ⟨a, HA⟩ := name_it (A.getD i 0)
      rw [HA.out] at hca
      have ha : a < 4294967296 := by rw [← HA.out]; exact dig_getD (by omega) dA i
      have hco := hr.cell i (by rw [hlen.out]; omega)
      have hfo := hr.frozen i
      have hst := fun x lo hi (h1 : x = a * 2 ^ s) (h2 : lo = x % 4294967296) (h3 : hi = x / 4294967296) => hP.step hlt HA.out h1 h2 h3
      have hcarry := hP.carry
      obtain ⟨o, HO⟩ := name_it (O.getD i 0)
      rw [HO.out] at hco hcarry
      obtain ⟨z1, z2, z3, z4⟩ := shf_bits (o := o) ha hs hcarry
      have e1 : ((a : Int) * 2 ^ s) = ((a * 2 ^ s : Nat) : Int) := by simp
      obtain ⟨x, HX⟩ := name_it (a * 2 ^ s)
      rw [HX.out] at z1 z2 z3 z4 e1
      have e2 : IntKind.u64.wrap ((a : Int) * 2 ^ s) = (x : Int) := by
        rw [e1]; simp [IntKind.wrap, IntKind.signed, IntKind.bits]; omega
      have hst2 := hst x _ _ HX.out.symm rfl rfl (by rw [HO.out]; exact z3) z2 (by omega)
      rw [HO.out] at hst2
      have e3 : ((x : Int) % 4294967296) = ((x % 4294967296 : Nat) : Int) := by simp
      obtain ⟨y, HY⟩ := name_it (x % 4294967296 + o)
      have hor : bits BinOp.or IntKind.u32 (o : Int) ((x : Int) % 4294967296) = (y : Int) := by rw [e3, z4, HY.out]
      rw [HY.out] at hst2
      obtain ⟨z, HZ⟩ := name_it (x / 4294967296)
      rw [HZ.out] at hst2
      have e4 : ((x : Int) / 4294967296) = (z : Int) := by rw [← HZ.out]; simp
      have hz32 : z < 4294967296 := by rw [← HZ.out]; omega
      have HST := Lib.hid hst2
      have hf2 := (hr.store i y).frozen (i + 1)
      have hco2 := (hr.store i y).cell (i + 1) (by simp [hlen.out]; omega)
      obtain ⟨old, HOLD⟩ := name_it ((O.set i y).getD (i + 1) 0)
      rw [HOLD.out] at hco2
      clear hst2 hst z2 z3 z4 e3 hP
      go_wp2_with fail
      go_roundw
      case rel => exact ⟨i + 1, _, by omega, by go_num, HST.out, (hr.store _ _).store _ _, (hA.other hne _).other hne _, (hch.setCell (.inr (by rw [← HB.out]; exact Nat.le_refl _)) _).setCell (.inr (by rw [← HB.out]; exact Nat.le_refl _)) _⟩
      case measure => simp [intOf]; omega
    · have hin' : n = i := by omega
      subst hin'
      have hv : Hid (lv 4294967296 O = lv 4294967296 A * 2 ^ s) := hP.done HN.out
      have dO := hP.digs
      clear hP
      go_wp2_with fail
      go_ret
      exact ⟨b, O, rfl, hr, by rw [← HB.out]; exact Nat.le_refl _, hlen.out, dO, hv.out, hch⟩

end Go.Proofs.Ytgdpcpbmjgaliaa

/- Part R12. -/

namespace Go.Proofs.Ytgdpcpbmjgaliaa
open Go.RowKit Nd

/-- The two leading digits of V, the three leading digits of U, and the quotient q of U and V. P is the power of B below them. -/
structure GuD (B v1 v2 top u3 U V q P : Nat) : Prop where
  hV1 : (v1 * B + v2) * P ≤ V
  hV2 : V < (v1 * B + v2 + 1) * P
  hU1 : (top * B + u3) * P ≤ U
  hU2 : U < (top * B + u3 + 1) * P
  q1 : q * V ≤ U
  q2 : U < (q + 1) * V
  qB : q < B
  v : 1 ≤ v1

theorem lt_of_mul {a b V U : Nat} (h1 : a * V ≤ U) (h2 : U < b * V) : a < b := by
  apply Classical.byContradiction
  intro h
  have : b * V ≤ a * V := Nat.mul_le_mul_right _ (by omega)
  omega

theorem gu_eq {B v1 v2 top guess rest : Nat} (h : guess * v1 + rest = top) : guess * (v1 * B + v2) + rest * B = top * B + guess * v2 := by
  subst h
  grind

/-- The guess is too great where the test says so. -/
theorem GuD.less {B v1 v2 top u3 U V q P guess rest : Nat} (h : GuD B v1 v2 top u3 U V q P) (hg : guess * v1 + rest = top) (hc : B ≤ guess ∨ rest * B + u3 < guess * v2) : q < guess := by
  rcases hc with hc | hc
  · have := h.qB; omega
  · have h1 := gu_eq (B := B) (v2 := v2) hg
    have h2 : top * B + u3 + 1 ≤ guess * (v1 * B + v2) := by omega
    have h3 : (top * B + u3 + 1) * P ≤ guess * (v1 * B + v2) * P := Nat.mul_le_mul_right _ h2
    have h4 : guess * ((v1 * B + v2) * P) ≤ guess * V := Nat.mul_le_mul_left _ h.hV1
    rw [← Nat.mul_assoc] at h4
    have h5 := h.hU2
    have h6 := h.q1
    exact lt_of_mul h6 (by omega)

/-- At the end it is the digit, or the digit and one. -/
theorem GuD.end_ {B v1 v2 top u3 U V q P guess rest : Nat} (h : GuD B v1 v2 top u3 U V q P) (hg : guess * v1 + rest = top) (hB : guess < B) (hc : guess * v2 ≤ rest * B + u3) : guess ≤ q + 1 := by
  have h1 := gu_eq (B := B) (v2 := v2) hg
  have h2 : guess * (v1 * B + v2) ≤ top * B + u3 := by omega
  have h3 : guess * (v1 * B + v2) * P ≤ (top * B + u3) * P := Nat.mul_le_mul_right _ h2
  have h4 : guess * V ≤ guess * ((v1 * B + v2 + 1) * P) := Nat.mul_le_mul_left _ (Nat.le_of_lt h.hV2)
  have h5 : guess * ((v1 * B + v2 + 1) * P) = guess * (v1 * B + v2) * P + guess * P := by rw [← Nat.mul_assoc, Nat.mul_add guess _ 1, Nat.mul_one, Nat.add_mul]
  have h6 : guess * P ≤ B * P := Nat.mul_le_mul_right _ (Nat.le_of_lt hB)
  have h7 : B * P ≤ V := by
    refine Nat.le_trans (Nat.mul_le_mul_right _ ?_) h.hV1
    have : 1 * B ≤ v1 * B := Nat.mul_le_mul_right _ h.v
    omega
  have h8 := h.hU1
  have h9 := h.q2
  have h10 : guess * V < (q + 2) * V := by
    rw [show q + 2 = q + 1 + 1 from rfl, Nat.add_mul (q + 1) 1 V, Nat.one_mul]
    omega
  have := Nat.lt_of_mul_lt_mul_right h10
  omega

/-- A break out of the loop: the guess is a digit, and the test would be false. -/
theorem gu_break {B v1 v2 top u3 guess rest : Nat} (hg : guess * v1 + rest = top) (ht : top < (v1 + 1) * B) (hr : B ≤ rest) (h2 : v2 < B) (_h1 : v1 < B) : guess < B ∧ guess * v2 ≤ rest * B + u3 := by
  have h3 : guess < B := by
    apply Classical.byContradiction
    intro h
    have h4 : B * v1 ≤ guess * v1 := Nat.mul_le_mul_right _ (by omega)
    rw [Nat.mul_comm B] at h4
    rw [Nat.add_mul, Nat.one_mul] at ht
    omega
  refine ⟨h3, ?_⟩
  have h5 : guess * v2 ≤ B * B := Nat.mul_le_mul (Nat.le_of_lt h3) (Nat.le_of_lt h2)
  have h6 : B * B ≤ rest * B := Nat.mul_le_mul_right _ hr
  omega

/-- The first guess is not too small. -/
theorem GuD.start {B v1 v2 top u3 U V q P : Nat} (h : GuD B v1 v2 top u3 U V q P) (_hB : 0 < B) (hu : u3 < B) : q ≤ top / v1 := by
  refine (Nat.le_div_iff_mul_le h.v).2 ?_
  apply Classical.byContradiction
  intro hc
  have h1 : (top + 1) * B ≤ q * v1 * B := Nat.mul_le_mul_right _ (by omega)
  rw [Nat.add_mul, Nat.one_mul] at h1
  have h2 : top * B + u3 + 1 ≤ q * v1 * B := by omega
  have h3 : (top * B + u3 + 1) * P ≤ q * v1 * B * P := Nat.mul_le_mul_right _ h2
  have h4 : q * ((v1 * B + v2) * P) ≤ q * V := Nat.mul_le_mul_left _ h.hV1
  have h5 : q * v1 * B * P ≤ q * ((v1 * B + v2) * P) := by
    have e : q * v1 * B * P = q * (v1 * B * P) := by grind
    rw [e]
    exact Nat.mul_le_mul_left _ (Nat.mul_le_mul_right _ (by omega))
  have h6 := h.hU2
  have h7 := h.q1
  omega

theorem win_two (B : Nat) (V : List Nat) (k : Nat) (hV : V.length = k + 2) : lv B V = (V.getD (k + 1) 0 * B + V.getD k 0) * B ^ k + win B V 0 k := by
  rw [← win_all, hV, win, win, Nat.zero_add, Nat.zero_add, Nat.pow_succ]
  generalize B ^ k = P
  generalize V.getD (k + 1) 0 = a
  generalize V.getD k 0 = b
  generalize win B V 0 k = z
  grind

theorem GuD.of_list {B : Nat} {L V : List Nat} {o k : Nat} (hB : 1 < B) (dL : dig B L) (dV : dig B V) (hV : V.length = k + 2) (hv : 1 ≤ V.getD (k + 1) 0) (hlt : win B L o (k + 3) < lv B V * B) :
    GuD B (V.getD (k + 1) 0) (V.getD k 0) (L.getD (o + (k + 2)) 0 * B + L.getD (o + (k + 1)) 0) (L.getD (o + k) 0) (win B L o (k + 3)) (lv B V) (win B L o (k + 3) / lv B V) (B ^ k) ∧
      L.getD (o + (k + 2)) 0 * B + L.getD (o + (k + 1)) 0 < (V.getD (k + 1) 0 + 1) * B := by
  have h1 := win_two B V k hV
  have h2 := win_top3 B L o k
  have h3 := win_lt B V 0 (by omega) dV k
  have h4 := win_lt B L o (by omega) dL k
  have h5 := dig_getD (by omega) dL (o + (k + 1))
  have h6 := dig_getD (by omega) dL (o + k)
  have h7 := dig_getD (by omega) dV k
  have hP : 0 < B ^ k := Nat.pow_pos (by omega)
  generalize win B L o (k + 3) = U at *
  generalize lv B V = W at *
  generalize V.getD (k + 1) 0 = v1 at *
  generalize V.getD k 0 = v2 at *
  generalize L.getD (o + (k + 2)) 0 = u2 at *
  generalize L.getD (o + (k + 1)) 0 = u1 at *
  generalize L.getD (o + k) 0 = u3 at *
  generalize win B V 0 k = z at *
  generalize win B L o k = y at *
  generalize B ^ k = P at *
  have hW : 0 < W := by
    have : 1 * 1 ≤ (v1 * B + v2) * P := Nat.mul_le_mul (by have : 1 * 1 ≤ v1 * B := Nat.mul_le_mul hv (by omega); omega) hP
    omega
  have e1 : (v1 * B + v2 + 1) * P = (v1 * B + v2) * P + P := by rw [Nat.add_mul _ 1 P, Nat.one_mul]
  have e2 : ((u2 * B + u1) * B + u3 + 1) * P = ((u2 * B + u1) * B + u3) * P + P := by rw [Nat.add_mul _ 1 P, Nat.one_mul]
  have hq := Nat.div_add_mod U W
  have hm := Nat.mod_lt U hW
  have hqB : U / W < B := (Nat.div_lt_iff_lt_mul hW).2 (by rw [Nat.mul_comm B]; exact hlt)
  refine ⟨⟨by omega, by omega, by omega, by omega, by rw [Nat.mul_comm]; omega, by rw [Nat.add_mul, Nat.one_mul, Nat.mul_comm]; omega, hqB, hv⟩, ?_⟩
  have hu : u2 < v1 + 1 := by
    apply Classical.byContradiction
    intro hc
    have a1 : (v1 + 1) * (B * B * P) ≤ u2 * (B * B * P) := Nat.mul_le_mul_right _ (by omega)
    have a2 : u2 * (B * B * P) ≤ ((u2 * B + u1) * B + u3) * P := by
      have : u2 * (B * B * P) = (u2 * B * B) * P := by grind
      rw [this]
      refine Nat.mul_le_mul_right _ ?_
      rw [Nat.add_mul]; omega
    have a3 : W * B ≤ (v1 + 1) * B * P * B := by
      refine Nat.mul_le_mul_right _ ?_
      have : (v1 * B + v2 + 1) * P ≤ (v1 + 1) * B * P := Nat.mul_le_mul_right _ (by rw [Nat.add_mul, Nat.one_mul]; omega)
      omega
    have a4 : (v1 + 1) * B * P * B = (v1 + 1) * (B * B * P) := by grind
    omega
  have : (u2 + 1) * B ≤ (v1 + 1) * B := Nat.mul_le_mul_right _ (by omega)
  rw [Nat.add_mul, Nat.one_mul] at this
  omega

end Go.Proofs.Ytgdpcpbmjgaliaa

/- Part R13. -/

namespace Go.Proofs.Ytgdpcpbmjgaliaa
open Go.RowKit Nd

theorem DivI.start2 {B : Nat} {U V : List Nat} {m t : Nat} (hB : 1 < B) (dU : dig B U) (hU : U.length = t + m) (hlt : lv B U < B ^ t * lv B V) (_hm0 : 1 ≤ m) :
    DivI B (lv B U) V (t + m) m t U (List.replicate t 0) := by
  have hw : lv B U = win B U 0 t + B ^ t * win B U t m := by
    rw [← win_all, hU, win_add, Nat.zero_add]
  refine ⟨hU, by simp, dU, dig_replicate (by omega) _, fun j hj => getD_ge _ _ (by omega), ?_, ?_⟩
  · have h1 : B ^ t * win B U t m < B ^ t * lv B V := by omega
    exact Nat.lt_of_mul_lt_mul_left h1
  · rw [List.drop_eq_nil_of_le (by simp), ← hU, win_all]; simp

theorem top_small {B n t s : Nat} {A C : List Nat} (hB : 1 < B) (dA : dig B A) (nC : noz C) (hC : C.length = n) (hn : 1 ≤ n) (hA : A.length + 1 = t + n) : lv B A * 2 ^ s < B ^ t * (lv B C * 2 ^ s) := by
  have h1 := lv_lt (by omega) A dA
  have h2 := lv_ge (B := B) C nC (by rintro rfl; simp at hC; omega)
  have h3 : B ^ A.length = B ^ t * B ^ (C.length - 1) := by rw [← Nat.pow_add]; congr 1; omega
  have h4 : B ^ t * B ^ (C.length - 1) ≤ B ^ t * lv B C := Nat.mul_le_mul_left _ h2
  rw [← Nat.mul_assoc]
  exact Nat.mul_lt_mul_of_pos_right (by omega) (Nat.two_pow_pos s)

theorem take_lv {B n : Nat} {L : List Nat} (hL : L.length = n + 1) (h : lv B L < B ^ n) : lv B (L.take n) = lv B L := by
  have h1 := lv_take_step B L n
  rw [List.take_of_length_le (by omega)] at h1
  have hx : L.getD n 0 = 0 := by
    apply Classical.byContradiction
    intro hc
    have : B ^ n * 1 ≤ B ^ n * L.getD n 0 := Nat.mul_le_mul_left _ (by omega)
    omega
  rw [hx, Nat.mul_zero] at h1
  omega
theorem shl_top {n t s : Nat} {C : List Nat} (dC : dig 4294967296 C) (hC : C.length = n + 1) (ht : C.getD n 0 = t) (hts : t * 2 ^ s < 4294967296) (hs : s ≤ 31) : lv 4294967296 C * 2 ^ s < 4294967296 ^ (n + 1) := by
  have h1 := lv_take_step 4294967296 C n
  rw [List.take_of_length_le (by omega), ht] at h1
  have h2 := lv_lt (B := 4294967296) (by omega) _ (dig_take dC n)
  have h3 : 4294967296 ^ (C.take n).length ≤ 4294967296 ^ n := Nat.pow_le_pow_right (by omega) (by rw [List.length_take]; omega)
  have h4 : 2 ^ (32 - s) * 2 ^ s = 4294967296 := by rw [← Nat.pow_add, show 32 - s + s = 32 by omega]
  have h5 : t < 2 ^ (32 - s) := by rw [← h4] at hts; exact Nat.lt_of_mul_lt_mul_right hts
  have h6 : lv 4294967296 C < 4294967296 ^ n * (t + 1) := by rw [Nat.mul_add, Nat.mul_one]; omega
  have h7 : 4294967296 ^ n * (t + 1) ≤ 4294967296 ^ n * 2 ^ (32 - s) := Nat.mul_le_mul_left _ h5
  have h8 : lv 4294967296 C * 2 ^ s < 4294967296 ^ n * 2 ^ (32 - s) * 2 ^ s := Nat.mul_lt_mul_of_pos_right (by omega) (Nat.two_pow_pos s)
  rw [Nat.mul_assoc, h4] at h8
  rw [Nat.pow_succ]
  exact h8

theorem top_pos {B n : Nat} {V : List Nat} (hB : 0 < B) (dV : dig B V) (hV : V.length = n + 1) (h : B ^ n ≤ lv B V) : 1 ≤ V.getD n 0 := by
  have h1 := lv_take_step B V n
  rw [List.take_of_length_le (by omega)] at h1
  have h2 := lv_lt hB _ (dig_take dV n)
  have h3 : B ^ (V.take n).length ≤ B ^ n := Nat.pow_le_pow_right hB (by rw [List.length_take]; omega)
  apply Classical.byContradiction
  intro hc
  rw [show V.getD n 0 = 0 by omega, Nat.mul_zero] at h1
  omega

theorem or_two {a b : Nat} (ha : a < 4294967296) (hb : b < 4294967296) : bits BinOp.or IntKind.u64 ((a : Int) * 4294967296) (b : Int) = ((a * 4294967296 + b : Nat) : Int) := by
  have := or_u64 a b 32 (by omega) (by omega) (by omega)
  simpa using this

theorem s_step {t s : Nat} (ht : 1 ≤ t) (h : t * 2 ^ s < 2147483648) : s + 1 ≤ 31 ∧ t * 2 ^ (s + 1) < 4294967296 := by
  have h1 : 1 * 2 ^ s ≤ t * 2 ^ s := Nat.mul_le_mul_right _ ht
  have h2 : s < 31 := (Nat.pow_lt_pow_iff_right (a := 2) (by omega)).1 (by omega : 2 ^ s < 2 ^ 31)
  rw [Nat.pow_succ, ← Nat.mul_assoc]
  omega

theorem and_mask (t : Nat) (ht : t ≤ 18446744073709551615) : bits BinOp.and IntKind.u64 (t : Int) 4294967295 = ((t % 4294967296 : Nat) : Int) := by
  have h1 : (BitVec.ofInt 64 (t : Int)).toNat = t := by
    rw [BitVec.ofInt_natCast, BitVec.toNat_ofNat]; exact Nat.mod_eq_of_lt (by omega)
  have h2 : (BitVec.ofInt 64 4294967295).toNat = 2 ^ 32 - 1 := by decide
  show IntKind.u64.wrap ((BitVec.ofInt 64 (t : Int) &&& BitVec.ofInt 64 4294967295).toNat : Int) = _
  rw [BitVec.toNat_and, h1, h2, Nat.and_two_pow_sub_one_eq_mod, IntKind.wrap_u64]
  omega

end Go.Proofs.Ytgdpcpbmjgaliaa
