/-
  Parties as an argument: opened.
-/
import Derived.Test.YtgdpcpbmjgaliaaFPS
import Derived.Test.YtgdpcpbmjgaliaaFPT
import Derived.Test.YtgdpcpbmjgaliaaPD
import Derived.Lib.SmallJoins
namespace Go.Proofs.Ytgdpcpbmjgaliaa
open Go.RowKit Nd
open Go.ChangeShapes (open_ints)

theorem rngU16 {a : Int} (h : (Lit.int .u16 a).wf = true) : 0 ≤ a ∧ a ≤ 65535 := by simpa [Lit.wf, IntKind.min, IntKind.max, IntKind.signed, IntKind.bits] using h
theorem rngU8 {a : Int} (h : (Lit.int .u8 a).wf = true) : 0 ≤ a ∧ a ≤ 255 := by simpa [Lit.wf, IntKind.min, IntKind.max, IntKind.signed, IntKind.bits] using h
theorem cellsPty : Try.prog.cellsOf 26 = 3 := by kernel_rfl
theorem cellsZn : Try.prog.cellsOf 3 = 1 := by kernel_rfl
section
variable {H : Type} {enc : TypeId × Value → H} {w : World} {base : Nat} {spare : Nat → Bool} {held : Bool}
theorem open_znsF {fuel : Nat} {cs : List Value} {x : DataW H × List MemPlace} (hf : DataW.trod enc Try.prog w base spare held fuel 22 cs = some x) :
    ∃ (A : Option Addr) (cap : Nat) (xs : List Zn), cs = [.slice A xs.length cap] ∧ xs.length ≤ 9223372036854775807 ∧ SZn w A xs := by
  rcases open_ints underZn Try.underlying3 cellsZn hf with ⟨hcs, _⟩ | ⟨a, len, cap, zs, hcs, _, hl, hm, hz, _, hcell, hwz⟩
  · exact ⟨none, 0, [], by simpa using hcs, by simp, SZn.nil _ _⟩
  · have hlz : len ≤ zs.length := by rw [hz]; split <;> omega
    have hlen : ((zs.take len).map Zn.mk).length = len := by rw [List.length_map, List.length_take]; omega
    refine ⟨some a, cap, (zs.take len).map Zn.mk, by rw [hlen]; exact hcs, by rw [hlen]; unfold maxLen at hm; omega, ?_⟩
    intro hpos
    rw [hlen] at hpos
    obtain ⟨g, o, sp⟩ := a
    have h0 := hcell 0 (by omega)
    have hs : sp = none := by
      have := World.cell?_spot h0
      simpa [Addr.add] using this
    subst hs
    have hlt : g < w.heap.size := by
      have := World.block_lt_of_cell? w _ h0
      simpa [Addr.add] using this
    refine ⟨g, o, rfl, hlt, fun j hj => ⟨?_, hlt⟩⟩
    rw [hlen] at hj
    have h1 := hcell j (by omega)
    rw [add_lit] at h1
    rw [Nat.mul_one, h1]
    simp [List.getD_eq_getElem?_getD, hj, zn0]
set_option maxRecDepth 100000 in
/-- Parties as an argument. -/
theorem open_parties {r : Reach} {b0 : Nat} {v : Value} {d : DataW H} {p : List MemPlace} (hv : Value.okWide Try.prog w r b0 26 v) (h : DataW.Trod enc Try.prog w base spare held 26 v d p) :
    ∃ P : PV, v = P.val ∧ P.At w := by
  obtain ⟨c0, c1, c2, y0, y1, y2, m, rfl, -, -, hy0, hy1, hy2⟩ := Go.Joins.open_agg3 Try.underlying26 (by kernel_rfl) cellsPty hv h
  obtain ⟨A0, n0, K, e0, l0, s0⟩ := open_znsF hy0
  obtain ⟨A1, n1, S, e1, l1, m1, s1⟩ := open_stksF hy1
  obtain ⟨A2, n2, T, e2, l2, m2, s2⟩ := open_tisF hy2
  simp at e0 e1 e2
  subst e0 e1 e2
  exact ⟨⟨K, S, T, K.length, S.length, T.length, A0, A1, A2, n0, n1, n2⟩, rfl, rfl, rfl, rfl, l0, Nat.le_trans l1 m1, Nat.le_trans l2 m2, s0, s1, s2⟩
end
end Go.Proofs.Ytgdpcpbmjgaliaa
