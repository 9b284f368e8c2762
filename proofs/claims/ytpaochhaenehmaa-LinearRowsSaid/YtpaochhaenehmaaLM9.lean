/-
  Row operations and the null space.
-/
import Derived.Test.YtpaochhaenehmaaLA24
namespace Go.Proofs.Ytpaochhaenehmaa
open Go.RowKit Nd

/-- Row p plus a times row q. -/
def addR (F : Nat → Nat → Rat) (p q : Nat) (a : Rat) : Nat → Nat → Rat := fun i j => if i = p then F p j + a * F q j else F i j
theorem dot_addR (F : Nat → Nat → Rat) (p q : Nat) (a : Rat) (m : Nat) (x : Nat → Rat) (i : Nat) : dotF (addR F p q a) m x i = if i = p then dotF F m x p + a * dotF F m x q else dotF F m x i := by
  by_cases h : i = p
  · rw [if_pos h]
    unfold dotF
    rw [← sumF_mul, ← sumF_add]
    refine sumF_congr fun j _ => ?_
    unfold addR; rw [if_pos h]; grind
  · rw [if_neg h]
    exact dotF_row fun j _ => by unfold addR; rw [if_neg h]
theorem addR_null {F : Nat → Nat → Rat} {p q n m : Nat} {a : Rat} {x : Nat → Rat} (hp : p < n) (hq : q < n) (hne : p ≠ q) : Null (addR F p q a) n m x ↔ Null F n m x := by
  constructor
  · intro h i hi
    have hq0 := h q hq
    rw [dot_addR, if_neg (Ne.symm hne)] at hq0
    by_cases e : i = p
    · have := h p hp
      rw [dot_addR, if_pos rfl, hq0] at this
      rw [e]; grind
    · have := h i hi
      rwa [dot_addR, if_neg e] at this
  · intro h i hi
    rw [dot_addR]
    by_cases e : i = p
    · rw [if_pos e, h p hp, h q hq]; grind
    · rw [if_neg e]; exact h i hi
theorem swp_null {F : Nat → Nat → Rat} {r p n m : Nat} {x : Nat → Rat} (hr : r < n) (hp : p < n) : Null (swp F r p) n m x ↔ Null F n m x := by
  constructor
  · intro h i hi
    by_cases e1 : i = r
    · have := h p hp
      rw [dot_swp] at this
      by_cases e2 : p = r
      · rw [if_pos e2] at this; rw [e1, ← e2]; exact this
      · rw [if_neg e2, if_pos rfl] at this; rw [e1]; exact this
    · by_cases e2 : i = p
      · have := h r hr
        rw [dot_swp, if_pos rfl] at this
        rw [e2]; exact this
      · have := h i hi
        rw [dot_swp, if_neg e1, if_neg e2] at this; exact this
  · intro h i hi
    rw [dot_swp]
    split
    · exact h p hp
    · split
      · exact h r hr
      · exact h i hi
theorem vals_null {M : List (List Q3)} {F : Nat → Nat → Rat} {n m k : Nat} (h : Vals M F n m k) (x : Nat → Rat) : Null (matQ M) n m x ↔ Null F n m x := by
  have e : ∀ i, i < n → dotF (matQ M) m x i = dotF F m x i := fun i hi => dotF_row fun j hj => (h.val i hi j hj).num.rat
  constructor
  · intro hn i hi; rw [← e i hi]; exact hn i hi
  · intro hn i hi; rw [e i hi]; exact hn i hi
theorem canM_congr {f g : Nat → Nat → Rat} {n m : Nat} (h : ∀ i, i < n → ∀ j, j < m → f i j = g i j) : canM f n m = canM g n m := by
  unfold canM
  refine List.map_congr_left fun i hi => ?_
  unfold canL
  refine List.map_congr_left fun j hj => ?_
  rw [h i (List.mem_range.1 hi) j (List.mem_range.1 hj)]
end Go.Proofs.Ytpaochhaenehmaa
