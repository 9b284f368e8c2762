/-
  A number (a struct of three fields) as an argument: opened and shut.
-/
import Derived.Test.YtnbajendnknejaaFrame
import Derived.Test.YtnbajendnknejaaGM
import Derived.Lib.SmallJoins
namespace Go.Proofs.Ytnbajendnknejaa
open Go.RowKit Nd

theorem cellsRat : Try.prog.cellsOf 49 = 3 := by kernel_rfl

set_option maxRecDepth 100000 in
theorem open_rat {H : Type} {enc : TypeId × Value → H} {w : World} {base : Nat} {spare : Nat → Bool} {held : Bool} {r : Reach} {b0 : Nat} {v : Value} {d : DataW H} {p : List MemPlace}
    (hv : Value.okWide Try.prog w r b0 49 v) (h : DataW.Trod enc Try.prog w base spare held 49 v d p) :
    ∃ x : Q3, v = .agg #[.bool x.neg, .string x.num, .string x.den] ∧ d = .agg [.lit (.bool x.neg), .lit (.string x.num.data.toList), .lit (.string x.den.data.toList)] ∧ p = [] ∧ x.num.size ≤ maxLen ∧ x.den.size ≤ maxLen := by
  obtain ⟨c0, c1, c2, y0, y1, y2, m, rfl, rfl, rfl, hy0, hy1, hy2⟩ := Go.Joins.open_agg3 Try.underlying49 (by kernel_rfl) cellsRat hv h
  obtain ⟨b, e0, rfl⟩ := DataW.trod_bool Try.underlying4 hy0
  obtain ⟨s, e1, rfl, ws⟩ := DataW.trod_string Try.underlying9 hy1
  obtain ⟨t, e2, rfl, wt⟩ := DataW.trod_string Try.underlying9 hy2
  simp at e0 e1 e2
  subst e0 e1 e2
  exact ⟨⟨b, s, t⟩, rfl, rfl, rfl, ws, wt⟩

set_option maxRecDepth 100000 in
theorem shut_rat {H : Type} {enc : TypeId × Value → H} {w : World} {base : Nat} {spare : Nat → Bool} {held : Bool} (x : Q3) (ws : x.num.size ≤ maxLen) (wt : x.den.size ≤ maxLen) :
    DataW.Trod enc Try.prog w base spare held 49 (.agg #[.bool x.neg, .string x.num, .string x.den]) (.agg [.lit (.bool x.neg), .lit (.string x.num.data.toList), .lit (.string x.den.data.toList)]) [] := by
  simpa using Go.Joins.shut_agg3 (enc := enc) (w := w) (base := base) (spare := spare) (held := held) (y0 := (.lit (.bool x.neg), [])) (y1 := (.lit (.string x.num.data.toList), [])) (y2 := (.lit (.string x.den.data.toList), [])) Try.underlying49 (by kernel_rfl) cellsRat
    ⟨1, by simp [DataW.trod, Try.underlying4]⟩ ⟨1, by simp [DataW.trod, Try.underlying9]; exact ws⟩ ⟨1, by simp [DataW.trod, Try.underlying9]; exact wt⟩

end Go.Proofs.Ytnbajendnknejaa
