/-
  Law 3: LinearApply.
-/
import Derived.Test.YtpaochhaenehmaaLX19
namespace Go.Proofs.Ytpaochhaenehmaa
open Go.RowKit Nd
theorem Row1.unique {xs ys : List Q3} {p : Nat → Rat} {m k l : Nat} (h : Row1 xs p m k) (g : Row1 ys p m l) : xs = ys :=
  ext_getD (by rw [h.len, g.len]) fun j hj => (h.val j (by rw [← g.len]; exact hj)).unique (g.val j (by rw [← g.len]; exact hj))
theorem sameRats_n (xs : List Q3) (n : Nat) (A B : Option Addr) (c d : Nat) (w : World) (hl : xs.length = n) (hn : n ≤ 1000000) (hx : Rds w A xs) (hy : Rds w B xs) :
    Calls Try.prog 44 #[.slice A n c, .slice B n d] w fun e w' => e = .returned (.bool true) ∧ Chg [] w w' := by
  subst hl; exact sameRats_any xs A B c d w hn hx hy
theorem fewM_row {m : Nat} {M : List (List Q3)} (h : fewM m M = true) {i : Nat} (hi : i < M.length) : (M.getD i []).length ≤ m ∧ fewQ (M.getD i []) = true := by
  unfold fewM at h
  have := List.all_eq_true.1 h _ (mem_getM hi)
  simpa using this
theorem mem_getQ {xs : List Q3} {j : Nat} (h : j < xs.length) : xs.getD j q0 ∈ xs := by
  rw [List.getD_eq_getElem?_getD, List.getElem?_eq_getElem h]; exact List.getElem_mem h
theorem fewM_fits {m : Nat} {M : List (List Q3)} (h : fewM m M = true) (hs : shapeE M = 0) : ∀ i, i < M.length → ∀ j, j < (M.getD 0 []).length → fits ((M.getD i []).getD j q0) 24 := by
  intro i hi j hj
  exact fewQ_fits (fewM_row h hi).2 _ (mem_getQ (by rw [(shapeE_ok hs).2.2.1 i hi]; exact hj))

/-- The valid form of a number. -/
def can (q : Rat) : Q3 := ⟨decide (q.num < 0), nb q.num.natAbs, nb (if q.den = 1 then 0 else q.den)⟩
theorem can_enc (q : Rat) : Enc (can q) q := ⟨rfl, Is_nb _, Is_nb _⟩
theorem Enc.can {x : Q3} {q : Rat} (h : Enc x q) : x = can q := h.unique (can_enc q)
def canL (p : Nat → Rat) (n : Nat) : List Q3 := (List.range n).map fun j => can (p j)
theorem canL_length (p : Nat → Rat) (n : Nat) : (canL p n).length = n := by simp [canL]
theorem canL_get (p : Nat → Rat) {n j : Nat} (h : j < n) : (canL p n).getD j q0 = can (p j) := by simp [canL, List.getD_eq_getElem?_getD, h]
theorem Row1.can {xs : List Q3} {p : Nat → Rat} {m k : Nat} (h : Row1 xs p m k) : xs = canL p m :=
  ext_getD (by rw [h.len, canL_length]) fun j hj => by rw [canL_length] at hj; rw [canL_get p hj]; exact (h.val j hj).enc.can
theorem ext_getM {M N : List (List Q3)} (hl : M.length = N.length) (h : ∀ j, j < N.length → M.getD j [] = N.getD j []) : M = N := by
  apply List.ext_getElem hl
  intro j h1 h2
  have := h j h2
  simpa [List.getD_eq_getElem?_getD, h1, h2] using this
def canM (f : Nat → Nat → Rat) (n m : Nat) : List (List Q3) := (List.range n).map fun i => canL (f i) m
theorem canM_length (f : Nat → Nat → Rat) (n m : Nat) : (canM f n m).length = n := by simp [canM]
theorem canM_get (f : Nat → Nat → Rat) {n i : Nat} (m : Nat) (h : i < n) : (canM f n m).getD i [] = canL (f i) m := by simp [canM, List.getD_eq_getElem?_getD, h]
theorem Vals.can {M : List (List Q3)} {f : Nat → Nat → Rat} {n m k : Nat} (h : Vals M f n m k) : M = canM f n m :=
  ext_getM (by rw [h.len, canM_length]) fun j hj => by rw [canM_length] at hj; rw [canM_get f m hj]; exact (h.at_ hj).can

end Go.Proofs.Ytpaochhaenehmaa
