/-
  Several parts put together: QR1, Q13.
-/
import Derived.Test.YtlhmimbooampdaaDoorR15
import Derived.Test.YtlhmimbooampdaaDoorGJ
import Derived.Test.YtlhmimbooampdaaDoorGM
/- Part QR1. -/

namespace Go.Proofs.YtlhmimbooampdaaDoor
open Go.RowKit Nd

theorem nrm_same (s : ByteArray) : ((nrmB s).toList == s.toList) = nolB s := by
  rw [toList_data, toList_data]
  have h : (nrmB s).data.toList = nrm s.data.toList := by simp [nrmB]
  rw [h]
  cases hb : nolB s
  · have hn : ¬ nolead s.data.toList := fun hc => by rw [nolB_iff.2 hc] at hb; simp at hb
    rw [beq_eq_false_iff_ne]
    intro he
    exact hn (he ▸ nrm_nolead s.data.toList)
  · rw [nrm_of_nolead _ (nolB_iff.1 hb)]; exact beq_self_eq_true _

end Go.Proofs.YtlhmimbooampdaaDoor

/- Part Q13. -/

namespace Go.Proofs.YtlhmimbooampdaaDoor
open Go.RowKit Nd

/-- Numbers laid in a block, one behind the other. -/
structure Rats (w : World) (g : Nat) (xs : List Q3) : Prop where
  lt : g < w.heap.size
  cells : ∀ j, j < xs.length → w.cell? ⟨g, j * 3, none⟩ = some (.bool (xs.getD j q0).neg) ∧ w.cell? ⟨g, j * 3 + 1, none⟩ = some (.string (xs.getD j q0).num) ∧ w.cell? ⟨g, j * 3 + 2, none⟩ = some (.string (xs.getD j q0).den)
theorem Rats.keep {gs : List Nat} {w w' : World} {g : Nat} {xs : List Q3} (h : Rats w g xs) (hc : Chg gs w w') (hg : g ∉ gs) : Rats w' g xs := by
  refine ⟨Nat.lt_of_lt_of_le h.lt hc.size, fun j hj => ?_⟩
  obtain ⟨a, b, c⟩ := h.cells j hj
  exact ⟨(hc.cell h.lt hg).trans a, (hc.cell h.lt hg).trans b, (hc.cell h.lt hg).trans c⟩

theorem Rats.one (w : World) (x : Q3) (e : TypeId) : Rats (w.alloc (.cells #[.bool x.neg, .string x.num, .string x.den] e)) w.heap.size [x] := by
  refine ⟨by simp, fun j hj => ?_⟩
  obtain rfl : j = 0 := by simpa using hj
  simp

end Go.Proofs.YtlhmimbooampdaaDoor
