/-
  Int64.
-/
import Derived.Test.YtpaochhaenehmaaGP
namespace Go.Proofs.Ytpaochhaenehmaa
open Go.RowKit Nd
/-- Whether p is an integer of int64, and which. -/
def i64ok (p : Rat) : Bool := decide (p.den = 1 ∧ -9223372036854775808 ≤ p.num ∧ p.num ≤ 9223372036854775807)
def i64v (p : Rat) : Int := if i64ok p then p.num else 0
theorem Val.eden {x : Q3} {q : Rat} {k : Nat} (h : Val x q k) : x.den.toList.isEmpty = decide (q.den = 1) := by
  rw [Is_empty h.enc.den]
  have := q.den_nz
  by_cases h1 : q.den = 1 <;> simp [h1, this]
theorem i64_t {p : Rat} (h1 : p.den = 1) (h2 : -9223372036854775808 ≤ p.num) (h3 : p.num ≤ 9223372036854775807) : i64ok p = true ∧ i64v p = p.num := by
  have : i64ok p = true := by unfold i64ok; simp [h1, h2, h3]
  exact ⟨this, by unfold i64v; rw [if_pos this]⟩
theorem i64_f {p : Rat} (h : ¬ (p.den = 1 ∧ -9223372036854775808 ≤ p.num ∧ p.num ≤ 9223372036854775807)) : i64ok p = false ∧ i64v p = 0 := by
  have : i64ok p = false := by unfold i64ok; exact decide_eq_false h
  exact ⟨this, by unfold i64v; rw [this]; rfl⟩
/-- The six ways of Int64. -/
inductive I64 (m : Nat) (e n : Bool) (ok : Bool) (v : Int) : Prop
  | great (h : 18446744073709551616 ≤ m) (h1 : ok = false) (h2 : v = 0)
  | frac (h : m < 18446744073709551616) (he : e = false) (h1 : ok = false) (h2 : v = 0)
  | pos (h : m ≤ 9223372036854775807) (he : e = true) (hn : n = false) (h1 : ok = true) (h2 : v = (m : Int))
  | over (h : m < 18446744073709551616) (h0 : 9223372036854775807 < m) (he : e = true) (hn : n = false) (h1 : ok = false) (h2 : v = 0)
  | neg (h : m ≤ 9223372036854775808) (h0 : 0 < m) (he : e = true) (hn : n = true) (h1 : ok = true) (h2 : v = -(m : Int))
  | under (h : m < 18446744073709551616) (h0 : 9223372036854775808 < m) (he : e = true) (hn : n = true) (h1 : ok = false) (h2 : v = 0)
theorem i64_ways {x : Q3} {p : Rat} {k : Nat} (h : Val x p k) : I64 (val x.num) x.den.toList.isEmpty x.neg (i64ok p) (i64v p) := by
  rw [Is_val h.enc.num, h.eden, h.enc.neg]
  by_cases h1 : 18446744073709551616 ≤ p.num.natAbs
  · have := i64_f (p := p) (by omega)
    exact .great h1 this.1 this.2
  by_cases hd : p.den = 1
  · by_cases hn : p.num < 0
    · by_cases hm : p.num.natAbs ≤ 9223372036854775808
      · have := i64_t (p := p) hd (by omega) (by omega)
        exact .neg hm (by omega) (by simp [hd]) (by simp [hn]) this.1 (by rw [this.2]; omega)
      · have := i64_f (p := p) (by omega)
        exact .under (by omega) (by omega) (by simp [hd]) (by simp [hn]) this.1 this.2
    · by_cases hm : p.num.natAbs ≤ 9223372036854775807
      · have := i64_t (p := p) hd (by omega) (by omega)
        exact .pos hm (by simp [hd]) (by simp [hn]) this.1 (by rw [this.2]; omega)
      · have := i64_f (p := p) (by omega)
        exact .over (by omega) (by omega) (by simp [hd]) (by simp [hn]) this.1 this.2
  · have := i64_f (p := p) (fun h => hd h.1)
    exact .frac (by omega) (by simp [hd]) this.1 this.2

end Go.Proofs.Ytpaochhaenehmaa
