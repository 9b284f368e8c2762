/-
  Law 3: LinearNull.
-/
import Derived.Test.YtpaochhaenehmaaLB2
import Derived.Test.YtpaochhaenehmaaLM4
namespace Go.Proofs.Ytpaochhaenehmaa
open Go.RowKit Nd

theorem vals_shape {M : List (List Q3)} {F : Nat → Nat → Rat} {n m k : Nat} (h : Vals M F n m k) (hn0 : 0 < n) (hn : n ≤ 16) (hm0 : 0 < m) (hm : m ≤ 16) : shapeE M = 0 := by
  refine shapeE_good (by rw [h.len]; omega) (by rw [h.row 0 hn0]; omega) (fun i hi => by rw [h.row i (by rw [← h.len]; exact hi), h.row 0 hn0]) (by rw [h.len]; exact hn) (by rw [h.row 0 hn0]; exact hm)
theorem vals_fits {M : List (List Q3)} {F : Nat → Nat → Rat} {n m k : Nat} (h : Vals M F n m k) {l : Nat} (hl : k ≤ l) (hn0 : 0 < n) : ∀ i, i < M.length → ∀ j, j < (M.getD 0 []).length → fits ((M.getD i []).getD j q0) l := by
  intro i hi j hj
  rw [h.row 0 hn0] at hj
  exact ((h.val i (by rw [← h.len]; exact hi) j hj).mono hl).num.fit
/-- The product with a vector of the kernel. -/
theorem ker_rows {M : List (List Q3)} {F : Nat → Nat → Rat} {n m k K c : Nat} {xs : List Q3} (_ : Vals M F n m k) (hc : c ∉ (ech (matQ M) n m).2) (hcm : c < m) (hx : Row1 xs (kvF (ech (matQ M) n m).1 (ech (matQ M) n m).2 c (ech (matQ M) n m).2.length) m K) (i : Nat) (hi : i < n) :
    sumF (fun j => ratOf ((M.getD i []).getD j q0) * ratOf (xs.getD j q0)) m = 0 := by
  have := ker_null (matQ M) hc hcm i hi
  unfold dotF at this
  rw [← this]
  exact sumF_congr fun j hj => by rw [(hx.val j hj).num.rat]; rfl

end Go.Proofs.Ytpaochhaenehmaa
