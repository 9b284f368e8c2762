/-
  Lists of numbers: FewRats, Sum, the reference's Sum.
-/
import Derived.Test.YtogciehmdlfkfaaGreatDoorRL
import Derived.Test.YtogciehmdlfkfaaGreatDoorGQ
import Derived.IntWalk
namespace Go.Proofs.YtogciehmdlfkfaaGreatDoor
open Go.RowKit Nd
theorem Rds.st3 {w : World} {g o k : Nat} {xs : List Q3} (h : Rds w (some ⟨g, o, none⟩) xs) (hk : g ≠ k) (x y z : Value) : Rds (((w.setCell ⟨k, 0, none⟩ x).setCell ⟨k, 1, none⟩ y).setCell ⟨k, 2, none⟩ z) (some ⟨g, o, none⟩) xs :=
  h.keep ((Chg.refl [k] w).store3 (.inl (by simp)) x y z) (by intro a ha; cases ha; simpa using hk)
theorem Blk3.st2 {w : World} {g k : Nat} {a b c : Value} (h : Blk3 w g a b c) (hk : g ≠ k) (x y z : Value) : Blk3 (((w.setCell ⟨k, 0, none⟩ x).setCell ⟨k, 1, none⟩ y).setCell ⟨k, 2, none⟩ z) g a b c :=
  h.keep ((Chg.refl [k] w).store3 (.inl (by simp)) x y z) (by simpa using hk)
theorem Val_zero : Val q0 0 1 := ⟨Enc_zero, ⟨by decide, by decide⟩⟩
/-- The sum of the numbers of a list. -/
def sumQ : List Q3 → Rat
  | [] => 0
  | x :: xs => ratOf x + sumQ xs
theorem sumQ_append : ∀ xs ys : List Q3, sumQ (xs ++ ys) = sumQ xs + sumQ ys
  | [], ys => by simp only [List.nil_append, sumQ]; grind
  | x :: xs, ys => by simp only [List.cons_append, sumQ, sumQ_append xs ys]; grind
theorem sumQ_split (xs : List Q3) (h : Nat) : sumQ (xs.take h) + sumQ (xs.drop h) = sumQ xs := by rw [← sumQ_append, List.take_append_drop]
theorem sumQ_snoc (xs : List Q3) {k : Nat} (h : k < xs.length) : sumQ (xs.take (k + 1)) = sumQ (xs.take k) + ratOf (xs.getD k q0) := by
  rw [take_snoc xs q0 k h, sumQ_append]; simp only [sumQ]; grind
theorem fewQ_fits {xs : List Q3} (h : fewQ xs = true) : ∀ x ∈ xs, fits x 24 := by
  intro x hx
  unfold fewQ at h
  rw [List.all_eq_true] at h
  have := h x hx
  unfold shortQ at this
  simp only [Bool.and_eq_true, decide_eq_true_eq] at this
  exact ⟨this.1, this.2⟩
theorem mem_getD {xs : List Q3} {j : Nat} (h : j < xs.length) : xs.getD j q0 ∈ xs := by
  rw [getD_lt _ _ h]; exact List.getElem_mem _

end Go.Proofs.YtogciehmdlfkfaaGreatDoor
