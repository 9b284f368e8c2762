/-
  The reference's Product and Apply.
-/
import Derived.Test.YtpaochhaenehmaaLX18
import Derived.Test.YtpaochhaenehmaaGR
namespace Go.Proofs.Ytpaochhaenehmaa
open Go.RowKit Nd
theorem El.st2 {w : World} {g o h : Nat} {x : Q3} (e : El w g o x) (hg : g ≠ h) (a b c : Value) : El (((w.setCell ⟨h, 0, none⟩ a).setCell ⟨h, 1, none⟩ b).setCell ⟨h, 2, none⟩ c) g o x := e.st hg a b c

end Go.Proofs.Ytpaochhaenehmaa
