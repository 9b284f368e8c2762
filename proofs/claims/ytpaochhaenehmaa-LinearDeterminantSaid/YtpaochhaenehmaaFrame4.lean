/-
  A list of lists of numbers as an argument: opened.
-/
import Derived.Test.YtpaochhaenehmaaGZ
import Derived.Test.YtpaochhaenehmaaLX1
namespace Go.Proofs.Ytpaochhaenehmaa
open Go.RowKit Nd
theorem Try.under4 : Try.prog.underlying 22 = some (.slice 33) := Try.underlying22
section
variable {H : Type} {enc : TypeId × Value → H} {w : World} {base : Nat} {spare : Nat → Bool} {held : Bool}
theorem open_mats {fuel : Nat} {cs : List Value} {x : DataW H × List MemPlace} (h : DataW.trod enc Try.prog w base spare held fuel 22 cs = some x) :
    ∃ (A : Option Addr) (cap : Nat) (M : List (List Q3)), cs = [.slice A M.length cap] ∧ M.length ≤ cap ∧ cap ≤ 9223372036854775807 ∧ Mtx w A M := by
  rcases Go.Deep.open_slice Try.under4 h with ⟨rfl, _⟩ | ⟨a, len, cap, m, n, D, Pl, rfl, _, hl, hm, hmm, _, hi⟩
  · exact ⟨none, 0, [], rfl, Nat.le_refl _, by omega, Mtx.nil _ _⟩
  · have hlm : len ≤ m := by rw [hmm]; split <;> omega
    have each : ∀ i, i < len → ∃ q : (List Q3), ∃ B c, w.cell? (a.add i) = some (.slice B q.length c) ∧ q.length ≤ c ∧ c ≤ 9223372036854775807 ∧ Rds w B q := by
      intro i hil
      obtain ⟨cs', hc, ht⟩ := hi i (by omega)
      obtain ⟨B, c, q, rfl, h1, h2, h3⟩ := open_rats ht
      rw [cellsRats] at hc
      obtain ⟨_, _, hat⟩ := World.cells?_some hc
      refine ⟨q, B, c, ?_, h1, h2, h3⟩
      have := hat 0 (by omega); rw [Go.Deep.add_add] at this; simpa using this
    obtain ⟨f, hf⟩ := Go.Deep.choose_lt each
    have hlen : ((List.range len).map f).length = len := by simp
    refine ⟨some a, cap, (List.range len).map f, by rw [hlen], by omega, by simpa [maxLen] using hm, ?_⟩
    intro hpos
    rw [hlen] at hpos
    obtain ⟨g, o, sp⟩ := a
    obtain ⟨B0, c0, e0, _⟩ := hf 0 hpos
    have hs : sp = none := by
      have := World.cell?_spot e0
      simpa [Addr.add] using this
    subst hs
    have hlt : g < w.heap.size := by
      have := World.block_lt_of_cell? w _ e0
      simpa [Addr.add] using this
    refine ⟨g, o, rfl, hlt, fun j hj => ?_⟩
    rw [hlen] at hj
    have hg : ((List.range len).map f).getD j [] = f j := by simp [List.getD_eq_getElem?_getD, hj]
    rw [hg]
    obtain ⟨B, c, e1, h1, h2, h3⟩ := hf j hj
    rw [add_lit] at e1
    exact ⟨B, c, e1, h1, h2, h3⟩
set_option maxRecDepth 100000 in
/-- A list of lists of numbers as an argument. -/
theorem open_mat {r : Reach} {b0 : Nat} {v : Value} {d : DataW H} {p : List MemPlace} (hv : Value.okWide Try.prog w r b0 22 v) (h : DataW.Trod enc Try.prog w base spare held 22 v d p) :
    ∃ (A : Option Addr) (cap : Nat) (M : List (List Q3)), v = .slice A M.length cap ∧ M.length ≤ cap ∧ cap ≤ 9223372036854775807 ∧ Mtx w A M := by
  obtain ⟨A, n, c, rfl⟩ := Go.WideShapes.okWide_slice Try.under4 hv
  obtain ⟨fuel, hf⟩ := h
  obtain ⟨B, cap, M, e, h1, h2, h3⟩ := open_mats hf
  simp [Value.cells] at e
  obtain ⟨rfl, rfl, rfl⟩ := e
  exact ⟨_, _, M, rfl, h1, h2, h3⟩
end

end Go.Proofs.Ytpaochhaenehmaa
