/-
  The reference's Solve; law 3: LinearSolve.
-/
import Derived.Test.YtpaochhaenehmaaLX23
namespace Go.Proofs.Ytpaochhaenehmaa
open Go.RowKit Nd

/-- What the reference's Solve answers. -/
def SolvR (F : Nat → Nat → Rat) (n K : Nat) (e : Ending) (w' : World) : Prop :=
  if (ech F n n).2.length = n then ∃ v zs, e = .returned (.tuple #[v, .int .i64 0]) ∧ Own3 w' v zs ∧ Row1 zs (fun r => (ech F n n).1 r n) n K
  else e = .returned (.tuple #[.slice none 0 0, .int .i64 5])
end Go.Proofs.Ytpaochhaenehmaa
