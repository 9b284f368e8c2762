/-
  Several parts put together: Shelf2, Q7, Q8, Q9.
-/
import Derived.Shelf.Small.Wraps
import Derived.Shelf.Strings.Search2
import Derived.Shelf.Strings.Repeat
import Derived.Test.YtgdpcpbmjgaliaaProg
import Derived.Test.YtgdpcpbmjgaliaaGK
import Derived.Test.YtgdpcpbmjgaliaaGF
import Derived.Lib.IndexLaws
/- Part Shelf2. -/

namespace Go.Proofs
open Go.Shelf
end Go.Proofs

/- Part Q7. -/

namespace Go.Proofs.Ytgdpcpbmjgaliaa
open Go.RowKit Nd

theorem pow10_lt (n : Nat) : 10 ^ n < 256 ^ (n + 1) := Nat.lt_of_le_of_lt (Nat.pow_le_pow_left (by omega) n) (Nat.pow_lt_pow_right (by omega) (by omega))
theorem pow10_half (n : Nat) : 10 ^ n = 10 ^ (n / 2) * 10 ^ (n / 2) * (if n % 2 = 1 then 10 else 1) := by
  rw [← Nat.pow_add]
  by_cases h : n % 2 = 1
  · rw [if_pos h, ← Nat.pow_succ]; congr 1; omega
  · rw [if_neg h, Nat.mul_one]; congr 1; omega

/-- The error that comes first. -/
def firstE (a b : Int) : Int := if a = 0 ∨ b = 3 then b else a
/-- The error of a number in decimal. -/
def pE (l : List UInt8) : Int := if canD l = true then (if 2000 < l.length then 2 else 0) else 3
theorem pE_cases (l : List UInt8) : pE l = 0 ∨ pE l = 2 ∨ pE l = 3 := by unfold pE; split <;> (try split) <;> simp
theorem size_len (s : ByteArray) : s.data.toList.length = s.size := by simp only [ByteArray.size, Array.length_toList]
theorem dv_size {s t : ByteArray} (h : Is t (dv s.data.toList)) (hall : s.data.toList.all isD = true) : t.size ≤ s.size := by
  refine Is_size h _ ?_
  have := dv_lt _ hall
  rw [size_len] at this
  exact Nat.lt_of_lt_of_le this (Nat.pow_le_pow_left (by omega) _)
theorem canD_all {l : List UInt8} (h : canD l = true) : l.all isD = true := by simp only [canD, Bool.and_eq_true] at h; exact h.1.2

/-- The error of digits behind a point. -/
def dE (l : List UInt8) : Int := if l.isEmpty then 3 else if l.all isD then (if 2000 < l.length then 2 else 0) else 3
theorem dE_cases (l : List UInt8) : dE l = 0 ∨ dE l = 2 ∨ dE l = 3 := by unfold dE; split <;> (try split) <;> (try split) <;> simp
theorem cut0_all' (l : List UInt8) : (cut0 l).all isD = l.all isD := by
  unfold cut0
  induction l with
  | nil => rfl
  | cons x l ih =>
    by_cases h : x = 48
    · subst h; simp [isD] at ih ⊢; exact ih
    · simp [h]
theorem cut0_len (l : List UInt8) : (cut0 l).length ≤ l.length := dropWhile_le _ _
theorem canD_cut0 {l : List UInt8} (h : cut0 l ≠ []) : canD (cut0 l) = l.all isD := by
  unfold canD
  rw [cut0_all']
  have h1 := cut0_head l
  have h2 : (cut0 l).isEmpty = false := by simpa using h
  rw [h2]; simp [h1]
theorem cut0_nil_all {l : List UInt8} (h : cut0 l = []) : l.all isD = true := by
  rw [← cut0_all', h]; rfl

end Go.Proofs.Ytgdpcpbmjgaliaa

/- Part Q8. -/

namespace Go.Proofs.Ytgdpcpbmjgaliaa
open Go.RowKit Nd

theorem firstE_zero {a b : Int} (h : firstE a b = 0) : a = 0 ∧ b = 0 := by
  unfold firstE at h
  split at h
  · rename_i h1
    rcases h1 with h1 | h1
    · exact ⟨h1, h⟩
    · omega
  · rename_i h1
    exact absurd (.inl h) h1
def quoE (l m : List UInt8) : Int := if firstE (pE l) (pE m) ≠ 0 then firstE (pE l) (pE m) else if dv m = 0 then 1 else 0
def quoQ (neg : Bool) (l m : List UInt8) : Rat := if quoE l m = 0 then sq neg (dv l) (dv m) else 0
def decE (l m : List UInt8) : Int := firstE (pE l) (dE m)
def decQ (neg : Bool) (l m : List UInt8) : Rat := if decE l m = 0 then sq neg (dv l * 10 ^ m.length + dv m) (10 ^ m.length) else 0

end Go.Proofs.Ytgdpcpbmjgaliaa

/- Part Q9. -/

namespace Go.Proofs.Ytgdpcpbmjgaliaa
open Go.RowKit Nd

/-- The pieces ahead of and behind the first byte c. -/
def cutAt : List UInt8 → UInt8 → Option (List UInt8 × List UInt8)
  | [], _ => none
  | b :: l, c => if b = c then some ([], l) else match cutAt l c with | some (x, y) => some (b :: x, y) | none => none
theorem cutAt_none {c : UInt8} : ∀ {l : List UInt8}, Lib.indexByte l c = -1 → cutAt l c = none
  | [], _ => rfl
  | b :: l, h => by
    have h1 := Lib.indexByte_none h 0
    have hb : b ≠ c := by intro he; apply h1; simp [he]
    have h2 : Lib.indexByte l c = -1 := by
      unfold Lib.indexByte at h
      have hbf : (b == c) = false := by simpa using hb
      rw [hbf] at h
      simp only [Bool.false_eq_true, if_false] at h
      split at h
      · rename_i h3; simpa using h3
      · have := Lib.indexByte_ge l c; omega
    rw [cutAt, if_neg hb, cutAt_none h2]
theorem cutAt_some {c : UInt8} : ∀ {l : List UInt8} {o : Nat}, Lib.indexByte l c = o → cutAt l c = some (l.take o, l.drop (o + 1))
  | [], o, h => by simp [Lib.indexByte] at h
  | b :: l, o, h => by
    unfold Lib.indexByte at h
    by_cases hb : b = c
    · have hbt : (b == c) = true := by simpa using hb
      rw [hbt] at h
      simp only [if_true] at h
      obtain rfl : o = 0 := by omega
      rw [cutAt, if_pos hb]; simp
    · have hbf : (b == c) = false := by simpa using hb
      rw [hbf] at h
      simp only [Bool.false_eq_true, if_false] at h
      split at h
      · omega
      · have hge := Lib.indexByte_ge l c
        rename_i h3
        have hne : Lib.indexByte l c ≠ -1 := by simpa using h3
        obtain ⟨k, rfl⟩ : ∃ k, o = k + 1 := ⟨o - 1, by omega⟩
        have := cutAt_some (l := l) (c := c) (o := k) (by omega)
        rw [cutAt, if_neg hb, this]; simp

def negP (l : List UInt8) : Bool := Lib.hasPrefix l [45]
def bodyP (l : List UInt8) : List UInt8 := Lib.trimPrefix l [45]
def parseP (l : List UInt8) : Int × Rat :=
  match cutAt (bodyP l) 47 with
  | some (a, b) => (quoE a b, quoQ (negP l) a b)
  | none => match cutAt (bodyP l) 46 with
    | some (a, b) => (decE a b, decQ (negP l) a b)
    | none => (quoE (bodyP l) [49], quoQ (negP l) (bodyP l) [49])
theorem bodyP_len (l : List UInt8) : (bodyP l).length ≤ l.length := by unfold bodyP Lib.trimPrefix; split <;> simp
theorem ext_take (s : ByteArray) (o : Nat) : (s.extract 0 o).data.toList = s.data.toList.take o := by simp
theorem ext_drop (s : ByteArray) (o : Nat) : (s.extract o s.size).data.toList = s.data.toList.drop o := by
  rw [Lib.extract_data]
  exact List.take_of_length_le (by rw [List.length_drop, size_len]; omega)
theorem ext_size (s : ByteArray) (a b : Nat) : (s.extract a b).size ≤ s.size := by
  rw [← size_len, Lib.extract_data, ← size_len]; simp only [List.length_take, List.length_drop]; omega

end Go.Proofs.Ytgdpcpbmjgaliaa
