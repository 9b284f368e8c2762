/-
  The reference's long: mathematics ahead of its walk.
-/
import Derived.Test.YtjmonodjnljhdaaGreatDoorR12
import Derived.Test.YtjmonodjnljhdaaGreatDoorMath3
namespace Go.Proofs.YtjmonodjnljhdaaGreatDoor
open Go.RowKit Nd

theorem DivI.start2 {B : Nat} {U V : List Nat} {m t : Nat} (hB : 1 < B) (dU : dig B U) (hU : U.length = t + m) (hlt : lv B U < B ^ t * lv B V) (hm0 : 1 ≤ m) :
    DivI B (lv B U) V (t + m) m t U (List.replicate t 0) := by
  have hw : lv B U = win B U 0 t + B ^ t * win B U t m := by
    rw [← win_all, hU, win_add, Nat.zero_add]
  refine ⟨hU, by simp, dU, dig_replicate (by omega) _, fun j hj => getD_ge _ _ (by omega), ?_, ?_⟩
  · have h1 : B ^ t * win B U t m < B ^ t * lv B V := by omega
    exact Nat.lt_of_mul_lt_mul_left h1
  · rw [List.drop_eq_nil_of_le (by simp), ← hU, win_all]; simp

theorem top_small {B n t s : Nat} {A C : List Nat} (hB : 1 < B) (dA : dig B A) (nC : noz C) (hC : C.length = n) (hn : 1 ≤ n) (hA : A.length + 1 = t + n) : lv B A * 2 ^ s < B ^ t * (lv B C * 2 ^ s) := by
  have h1 := lv_lt (by omega) A dA
  have h2 := lv_ge (B := B) C nC (by rintro rfl; simp at hC; omega)
  have h3 : B ^ A.length = B ^ t * B ^ (C.length - 1) := by rw [← Nat.pow_add]; congr 1; omega
  have h4 : B ^ t * B ^ (C.length - 1) ≤ B ^ t * lv B C := Nat.mul_le_mul_left _ h2
  rw [← Nat.mul_assoc]
  exact Nat.mul_lt_mul_of_pos_right (by omega) (Nat.two_pow_pos s)

theorem take_lv {B n : Nat} {L : List Nat} (hL : L.length = n + 1) (h : lv B L < B ^ n) : lv B (L.take n) = lv B L := by
  have h1 := lv_take_step B L n
  rw [List.take_of_length_le (by omega)] at h1
  have hx : L.getD n 0 = 0 := by
    apply Classical.byContradiction
    intro hc
    have : B ^ n * 1 ≤ B ^ n * L.getD n 0 := Nat.mul_le_mul_left _ (by omega)
    omega
  rw [hx, Nat.mul_zero] at h1
  omega
theorem shl_top {n t s : Nat} {C : List Nat} (dC : dig 4294967296 C) (hC : C.length = n + 1) (ht : C.getD n 0 = t) (hts : t * 2 ^ s < 4294967296) (hs : s ≤ 31) : lv 4294967296 C * 2 ^ s < 4294967296 ^ (n + 1) := by
  have h1 := lv_take_step 4294967296 C n
  rw [List.take_of_length_le (by omega), ht] at h1
  have h2 := lv_lt (B := 4294967296) (by omega) _ (dig_take dC n)
  have h3 : 4294967296 ^ (C.take n).length ≤ 4294967296 ^ n := Nat.pow_le_pow_right (by omega) (by rw [List.length_take]; omega)
  have h4 : 2 ^ (32 - s) * 2 ^ s = 4294967296 := by rw [← Nat.pow_add, show 32 - s + s = 32 by omega]
  have h5 : t < 2 ^ (32 - s) := by rw [← h4] at hts; exact Nat.lt_of_mul_lt_mul_right hts
  have h6 : lv 4294967296 C < 4294967296 ^ n * (t + 1) := by rw [Nat.mul_add, Nat.mul_one]; omega
  have h7 : 4294967296 ^ n * (t + 1) ≤ 4294967296 ^ n * 2 ^ (32 - s) := Nat.mul_le_mul_left _ h5
  have h8 : lv 4294967296 C * 2 ^ s < 4294967296 ^ n * 2 ^ (32 - s) * 2 ^ s := Nat.mul_lt_mul_of_pos_right (by omega) (Nat.two_pow_pos s)
  rw [Nat.mul_assoc, h4] at h8
  rw [Nat.pow_succ]
  exact h8

theorem top_pos {B n : Nat} {V : List Nat} (hB : 0 < B) (dV : dig B V) (hV : V.length = n + 1) (h : B ^ n ≤ lv B V) : 1 ≤ V.getD n 0 := by
  have h1 := lv_take_step B V n
  rw [List.take_of_length_le (by omega)] at h1
  have h2 := lv_lt hB _ (dig_take dV n)
  have h3 : B ^ (V.take n).length ≤ B ^ n := Nat.pow_le_pow_right hB (by rw [List.length_take]; omega)
  apply Classical.byContradiction
  intro hc
  rw [show V.getD n 0 = 0 by omega, Nat.mul_zero] at h1
  omega

theorem or_two {a b : Nat} (ha : a < 4294967296) (hb : b < 4294967296) : bits BinOp.or IntKind.u64 ((a : Int) * 4294967296) (b : Int) = ((a * 4294967296 + b : Nat) : Int) := by
  have := or_u64 a b 32 (by omega) (by omega) (by omega)
  simpa using this

theorem s_step {t s : Nat} (ht : 1 ≤ t) (h : t * 2 ^ s < 2147483648) : s + 1 ≤ 31 ∧ t * 2 ^ (s + 1) < 4294967296 := by
  have h1 : 1 * 2 ^ s ≤ t * 2 ^ s := Nat.mul_le_mul_right _ ht
  have h2 : s < 31 := (Nat.pow_lt_pow_iff_right (a := 2) (by omega)).1 (by omega : 2 ^ s < 2 ^ 31)
  rw [Nat.pow_succ, ← Nat.mul_assoc]
  omega

theorem and_mask (t : Nat) (ht : t ≤ 18446744073709551615) : bits BinOp.and IntKind.u64 (t : Int) 4294967295 = ((t % 4294967296 : Nat) : Int) := by
  have h1 : (BitVec.ofInt 64 (t : Int)).toNat = t := by
    rw [BitVec.ofInt_natCast, BitVec.toNat_ofNat]; exact Nat.mod_eq_of_lt (by omega)
  have h2 : (BitVec.ofInt 64 4294967295).toNat = 2 ^ 32 - 1 := by decide
  show IntKind.u64.wrap ((BitVec.ofInt 64 (t : Int) &&& BitVec.ofInt 64 4294967295).toNat : Int) = _
  rw [BitVec.toNat_and, h1, h2, Nat.and_two_pow_sub_one_eq_mod, IntKind.wrap_u64]
  omega

end Go.Proofs.YtjmonodjnljhdaaGreatDoor
