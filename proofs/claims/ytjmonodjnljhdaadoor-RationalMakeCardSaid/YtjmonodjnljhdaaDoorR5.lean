/-
  Walks of the reference: minus, NatSubtract, plus, NatAdd.
-/
import Derived.Test.YtjmonodjnljhdaaDoorR3
namespace Go.Proofs.YtjmonodjnljhdaaDoor
open Go.RowKit Nd

/-- U - V into a new row: i digits are done, c is borrowed. -/
structure MinI (U V : List Nat) (n i c : Nat) (L : List Nat) : Prop where
  len : L.length = n
  digs : dig 4294967296 L
  carry : c ≤ 1
  value : win 4294967296 L 0 i + lv 4294967296 (V.take i) = lv 4294967296 (U.take i) + 4294967296 ^ i * c
theorem MinI.start (U V : List Nat) (n : Nat) : MinI U V n 0 0 (List.replicate n 0) := ⟨by simp, dig_replicate (by omega) n, by omega, by simp [win]⟩
theorem MinI.step {U V L : List Nat} {n i c d b : Nat} (h : MinI U V n i c L) (hi : i < n) (hd : d < 4294967296) (hb : b ≤ 1) (he : d + V.getD i 0 + c = U.getD i 0 + 4294967296 * b) :
    MinI U V n (i + 1) b (L.set i d) := by
  refine ⟨by simpa using h.len, dig_set h.digs _ _ hd, hb, ?_⟩
  rw [win, Nat.zero_add, win_set_out _ _ _ _ _ _ (by omega), Nd.getD_set_eq (by rw [h.len]; exact hi), lv_take_step, lv_take_step]
  have := sub_step 4294967296 i _ c _ _ d b _ _ h.value he
  omega
theorem MinI.done {U V L : List Nat} {n c : Nat} (h : MinI U V n n c L) (hn : U.length = n) (dU : dig 4294967296 U) (nV : noz V) (hle : lv 4294967296 V ≤ lv 4294967296 U) :
    lv 4294967296 L = lv 4294967296 U - lv 4294967296 V := by
  have hVl : V.length ≤ n := by rw [← hn]; exact len_le_of_lv (B := 4294967296) (by omega) V U dU nV hle
  have h1 := h.value
  rw [List.take_of_length_le hVl, List.take_of_length_le (by omega)] at h1
  have h2 : win 4294967296 L 0 n = lv 4294967296 L := by rw [← h.len, win_all]
  have h3 := lv_lt (B := 4294967296) (by omega) L h.digs
  rw [h.len] at h3
  rw [h2] at h1
  have h4 : c = 0 := by
    apply Classical.byContradiction
    intro hc
    have : 4294967296 ^ n * 1 ≤ 4294967296 ^ n * c := Nat.mul_le_mul_left _ (by omega)
    omega
  rw [h4] at h1
  omega

end Go.Proofs.YtjmonodjnljhdaaDoor
