/-
  Several parts put together: Q10, Q11, Q12.
-/
import Derived.Test.YtgdpcpbmjgaliaaGL
import Derived.Test.YtgdpcpbmjgaliaaGF
/- Part Q10. -/

namespace Go.Proofs.Ytgdpcpbmjgaliaa
open Go.RowKit Nd

/-- The text of a number. -/
def fmtL (q : Rat) : List UInt8 := (if q.num < 0 then [45] else []) ++ (decL q.num.natAbs ++ (if q.den = 1 then [] else 47 :: decL q.den))
theorem pow256_10 (k : Nat) : 256 ^ k ≤ 10 ^ (3 * k) := by rw [Nat.pow_mul]; exact Nat.pow_le_pow_left (by omega) k
theorem dec_size {t : ByteArray} {n k : Nat} (h : Dec t.data.toList n) (hn : n < 256 ^ k) (hk : 1 ≤ k) : t.size ≤ 3 * k := by
  rw [← size_len, decL_of h]
  exact decL_len (Nat.lt_of_lt_of_le hn (pow256_10 k)) (by omega)
theorem app_list (a b : ByteArray) : (a ++ b).data.toList = a.data.toList ++ b.data.toList := by simp

end Go.Proofs.Ytgdpcpbmjgaliaa

/- Part Q11. -/

namespace Go.Proofs.Ytgdpcpbmjgaliaa
open Go.RowKit Nd

theorem Chg.of_below {w w' : World} (h : Below w.heap.size w w') : Chg [] w w' := ⟨h.os, h.tape, h.output, h.size, fun k hk _ => h.block k hk⟩
theorem repeat_one (c : UInt8) : ∀ n : Nat, Lib.repeatL [c] n = List.replicate n c
  | 0 => rfl
  | n + 1 => by rw [Lib.repeatL, repeat_one c n, List.replicate_succ]; rfl
/-- How many places are shown. -/
def clampP (n : Int) : Nat := (min (max n 0) 20).toNat
theorem clampP_eq (n : Int) : min (max n 0) 20 = (clampP n : Int) := by unfold clampP; omega
theorem clampP_le (n : Int) : clampP n ≤ 20 := by unfold clampP; omega
def padL (pl : Nat) (T : List UInt8) : List UInt8 := List.replicate (pl + 1 - T.length) 48 ++ T
def pointL (pl : Nat) (T : List UInt8) : List UInt8 := if 0 < pl then T.take (T.length - pl) ++ 46 :: T.drop (T.length - pl) else T
def scaleQ (q : Rat) (pl : Nat) : Nat := q.num.natAbs * 10 ^ pl / q.den
def decimalL (q : Rat) (pl : Nat) : List UInt8 := (if q.num < 0 ∧ scaleQ q pl ≠ 0 then [45] else []) ++ pointL pl (padL pl (decL (scaleQ q pl)))
theorem pad_len (pl : Nat) (T : List UInt8) : pl + 1 ≤ (padL pl T).length := by unfold padL; rw [List.length_append, List.length_replicate]; omega

end Go.Proofs.Ytgdpcpbmjgaliaa

/- Part Q12. -/

namespace Go.Proofs.Ytgdpcpbmjgaliaa
open Go.RowKit Nd

theorem aw1 : fmtL (sq (fsg 6 (-4)) (6 : Int).natAbs (-4 : Int).natAbs) = [45, 51, 47, 50] := by decide +kernel
theorem aw2 : fmtL (flo (sq (fsg 6 (-4)) (6 : Int).natAbs (-4 : Int).natAbs)) = [45, 50] := by decide +kernel
theorem aw3 : (parseP [51, 46, 50, 53, 48]).1 = 0 := by decide +kernel
theorem aw4 : fmtL (parseP [51, 46, 50, 53, 48]).2 = [49, 51, 47, 52] := by decide +kernel
theorem aw5 : decimalL (sq (fsg (-2) 3) (-2 : Int).natAbs (3 : Int).natAbs) (clampP 2) = [45, 48, 46, 54, 54] := by decide +kernel
theorem bdw1 : Bd 8 (sq (fsg 6 (-4)) (6 : Int).natAbs (-4 : Int).natAbs) := ⟨by decide +kernel, by decide +kernel⟩
theorem bdw2 : Bd 8 (flo (sq (fsg 6 (-4)) (6 : Int).natAbs (-4 : Int).natAbs)) := ⟨by decide +kernel, by decide +kernel⟩
theorem bdw3 : Bd 8 (parseP [51, 46, 50, 53, 48]).2 := ⟨by decide +kernel, by decide +kernel⟩
theorem bdw4 : Bd 8 (sq (fsg (-2) 3) (-2 : Int).natAbs (3 : Int).natAbs) := ⟨by decide +kernel, by decide +kernel⟩
theorem str_lit {s : ByteArray} {l : List UInt8} (h : s.data.toList = l) : s = ⟨l.toArray⟩ := by
  apply ByteArray.ext
  exact Array.toList_inj.1 (by rw [h])

def shortQ (x : Q3) : Bool := decide (x.num.size ≤ 24) && decide (x.den.size ≤ 24)
def fewQ (l : List Q3) : Bool := l.all shortQ
def q0 : Q3 := ⟨false, ⟨#[]⟩, ⟨#[]⟩⟩

set_option maxRecDepth 20000 in
set_option maxHeartbeats 1000000 in
theorem Few_any (x : Q3) (w : World) : Calls Try.prog 29 #[.agg #[.bool x.neg, .string x.num, .string x.den]] w fun e w' => e = .returned (.bool (shortQ x)) ∧ Chg [] w w' := by
  have b1 := Blk3.alloc w (.bool x.neg) (.string x.num) (.string x.den) 33
  have hch : Chg [] w (w.alloc (.cells #[.bool x.neg, .string x.num, .string x.den] 33)) := (Chg.refl _ _).alloc _
  obtain ⟨r, HR⟩ := name_it (shortQ x)
  have hr := HR.out
  unfold shortQ at hr
  rw [HR.out]
  by_cases h1 : x.num.size ≤ 24 <;> by_cases h2 : x.den.size ≤ 24
  all_goals
    go_enter Try.func29, Try.ntmps29
    go_wp2_with fail
    go_ret
    exact ⟨ret_eq (by rw [← hr]; simp [h1, h2] <;> omega), hch⟩
end Go.Proofs.Ytgdpcpbmjgaliaa
