/-
  Several parts put together: W13, W14, W15, W16, W17.
-/
import Derived.Test.YtgdpcpbmjgaliaaGE
import Derived.Test.YtgdpcpbmjgaliaaGA
/- Part W13. -/

namespace Go.Proofs.Ytgdpcpbmjgaliaa
open Go.RowKit Nd

def p10 (k : Nat) : Nat := 10 ^ k
end Go.Proofs.Ytgdpcpbmjgaliaa

/- Part W14. -/

namespace Go.Proofs.Ytgdpcpbmjgaliaa
open Go.RowKit Nd

def strLen : Value → Nat | .string s => s.size | _ => 0
theorem ext_list (s : ByteArray) (a b : Nat) : (s.extract a b).data.toList = (s.data.toList.drop a).take (b - a) := by simp

end Go.Proofs.Ytgdpcpbmjgaliaa

/- Part W15. -/

namespace Go.Proofs.Ytgdpcpbmjgaliaa
open Go.RowKit Nd

end Go.Proofs.Ytgdpcpbmjgaliaa

/- Part W16. -/

namespace Go.Proofs.Ytgdpcpbmjgaliaa
open Go.RowKit Nd

theorem run_str_off {w : World} {g cap : Nat} {xs : List Nat} (h : Row 5 .u8 w g cap xs) (o l c : Nat) (hl : o + l = xs.length) :
    (convert 107 9 (.slice (some ⟨g, o, none⟩) l c)).run Try.prog w = .ok (.string (strOf (xs.drop o))) w := by
  refine run_convert_bytes_arg w 107 5 Try.underlying107 Try.underlying5 g o l c _ (by simp; omega) (fun i hi => ?_) 9 Try.underlying9
  rw [h.cell (o + i) (by omega)]
  have : o + i < xs.length := by omega
  simp [List.getD, this]
theorem run_str_zero (w : World) (g o c : Nat) : (convert 107 9 (.slice (some ⟨g, o, none⟩) 0 c)).run Try.prog w = .ok (.string (strOf [])) w :=
  run_convert_bytes_arg w 107 5 Try.underlying107 Try.underlying5 g o 0 c [] rfl (fun i hi => absurd hi (by omega)) 9 Try.underlying9
theorem strOf_nil : strOf [] = ⟨#[]⟩ := rfl

end Go.Proofs.Ytgdpcpbmjgaliaa

/- Part W17. -/

namespace Go.Proofs.Ytgdpcpbmjgaliaa
open Go.RowKit Nd

theorem Is_lit (s : ByteArray) (n : Nat) (h1 : val s = n) (h2 : nolead s.data.toList) : Is s n := ⟨h1, h2⟩

/-- All strings have at most 60 bytes. -/
def fewB (ss : List ByteArray) : Bool := ss.all fun s => decide (s.size ≤ 60)

theorem cell_alloc_strs (w : World) (cs : Array Value) (e : TypeId) (ss : List ByteArray) (hcs : cs = (ss.map Value.string).toArray) :
    ∀ j, j < ss.length → (w.alloc (.cells cs e)).cell? ⟨w.heap.size, j, none⟩ = some (.string (ss.getD j ByteArray.empty)) := by
  intro j hj
  rw [cell_of_row _ _ _ _ _ _ (heap_alloc_new w _), hcs]
  simp [List.getD, hj]

end Go.Proofs.Ytgdpcpbmjgaliaa
