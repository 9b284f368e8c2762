/-
  Of law 4: Exact.
-/
import Derived.Test.YtdlejpaaoinokaaAL4
namespace Go.Proofs.Ytdlejpaaoinokaa
open Go.RowKit Nd

/-- A number at an address. -/
structure E3 (w : World) (g o : Nat) (x : Q3) : Prop where
  lt : g < w.heap.size
  c0 : w.cell? ⟨g, o, none⟩ = some (.bool x.neg)
  c1 : w.cell? ⟨g, o + 1, none⟩ = some (.string x.num)
  c2 : w.cell? ⟨g, o + 2, none⟩ = some (.string x.den)
theorem E3.keep {gs : List Nat} {w w' : World} {g o : Nat} {x : Q3} (h : E3 w g o x) (hc : Chg gs w w') (hg : g ∉ gs) : E3 w' g o x :=
  ⟨Nat.lt_of_lt_of_le h.lt hc.size, (hc.cell (p := ⟨g, _, none⟩) h.lt hg).trans h.c0, (hc.cell (p := ⟨g, _, none⟩) h.lt hg).trans h.c1, (hc.cell (p := ⟨g, _, none⟩) h.lt hg).trans h.c2⟩
theorem E3.keep0 {w w' : World} {g o : Nat} {x : Q3} (h : E3 w g o x) (hc : Chg [] w w') : E3 w' g o x := h.keep hc (by simp)
theorem E3.st2 {w : World} {g o k : Nat} {x : Q3} (h : E3 w g o x) (hk : g ≠ k) (a b c : Value) : E3 (((w.setCell ⟨k, 0, none⟩ a).setCell ⟨k, 1, none⟩ b).setCell ⟨k, 2, none⟩ c) g o x :=
  h.keep ((Chg.refl [k] w).store3 (.inl (by simp)) a b c) (by simpa using hk)
theorem C1.st2 {w : World} {g j k : Nat} {v : Value} (h : C1 w g j v) (hk : g ≠ k) (a b c : Value) : C1 (((w.setCell ⟨k, 0, none⟩ a).setCell ⟨k, 1, none⟩ b).setCell ⟨k, 2, none⟩ c) g j v :=
  h.keep ((Chg.refl [k] w).store3 (.inl (by simp)) a b c) (by simpa using hk)
theorem den_emp {z : Q3} {q : Rat} {k : Nat} (h : Val z q k) : (z.den.toList == []) = decide (q.den = 1) := by
  have e : (z.den.toList == []) = z.den.toList.isEmpty := by cases z.den.toList <;> rfl
  rw [e, Is_empty h.enc.den]
  by_cases h1 : q.den = 1
  · simp [h1]
  · have := q.den_nz
    simp [h1, this]
/-- Behind a region: a box that holds a number, and a truth. -/
structure KE (w0 wx : World) (v b : Value) (q : Rat) (k : Nat) : Prop where
  out : ∃ (g : Nat) (z : Q3), v = .pointer (some ⟨g, 0, none⟩) ∧ b = .bool true ∧ Val z q k ∧ Blk3 wx g (.bool z.neg) (.string z.num) (.string z.den)
  ch : Chg [] w0 wx
/-- Behind a region: a box that holds a number. -/
structure KE1 (w0 wx : World) (v : Value) (q : Rat) (k : Nat) : Prop where
  out : ∃ (g : Nat) (z : Q3), v = .pointer (some ⟨g, 0, none⟩) ∧ Val z q k ∧ Blk3 wx g (.bool z.neg) (.string z.num) (.string z.den)
  ch : Chg [] w0 wx
end Go.Proofs.Ytdlejpaaoinokaa
