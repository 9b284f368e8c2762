/-
  Lists of Stk as arguments: opened.
-/
import Derived.Test.YtgdpcpbmjgaliaaGZ
import Derived.Test.YtgdpcpbmjgaliaaPS
import Derived.OpenShut
import Derived.ChangeSlices
namespace Go.Proofs.Ytgdpcpbmjgaliaa
open Go.RowKit Nd

theorem cellsStk : Try.prog.cellsOf 36 = 5 := by kernel_rfl
theorem cellsStk_int : Try.prog.cellsOf 3 = 1 := by kernel_rfl

section
variable {H : Type} {enc : TypeId × Value → H} {w : World} {base : Nat} {spare : Nat → Bool} {held : Bool}
set_option maxRecDepth 100000 in
/-- The cells of an element that lies in memory. -/
theorem stk_cells {fuel : Nat} {cs : List Value} {x : DataW H × List MemPlace} (h : DataW.trod enc Try.prog w base spare held fuel 36 cs = some x) :
    ∃ s : Stk, cs = [.int .i64 s.ow, .int .i64 s.co, .bool s.vt.neg, .string s.vt.num, .string s.vt.den] := by
  obtain ⟨ys, n, rfl, hx, hl, hlen, hf⟩ := DataW.trod_struct Try.underlying36 h
  rw [cellsStk] at hl
  match cs, hl with
  | [c0, c1, c2, c3, c4], _ =>
    match ys, hlen with
    | [y0, y1, y2], _ =>
      have h0 : DataW.trod enc Try.prog w base spare held n 3 (([c0, c1, c2, c3, c4].drop 0).take (Try.prog.cellsOf 3)) = some y0 := hf 0 _ rfl
      rw [cellsStk_int] at h0
      have g0 : DataW.trod enc Try.prog w base spare held n 3 [c0] = some y0 := h0
      have h1 : DataW.trod enc Try.prog w base spare held n 3 (([c0, c1, c2, c3, c4].drop 1).take (Try.prog.cellsOf 3)) = some y1 := hf 1 _ rfl
      rw [cellsStk_int] at h1
      have g1 : DataW.trod enc Try.prog w base spare held n 3 [c1] = some y1 := h1
      have h2 : DataW.trod enc Try.prog w base spare held n 33 (([c0, c1, c2, c3, c4].drop 2).take (Try.prog.cellsOf 33)) = some y2 := hf 2 _ rfl
      rw [cellsRat] at h2
      have g2 : DataW.trod enc Try.prog w base spare held n 33 [c2, c3, c4] = some y2 := h2
      obtain ⟨p0, e0, _, _⟩ := DataW.trod_int Try.underlying3 g0
      simp at e0
      subst e0
      obtain ⟨p1, e1, _, _⟩ := DataW.trod_int Try.underlying3 g1
      simp at e1
      subst e1
      obtain ⟨p2, e2, _, _⟩ := rat_cells g2
      simp at e2
      obtain ⟨rfl, rfl, rfl⟩ := e2
      exact ⟨⟨p0, p1, p2⟩, rfl⟩
instance : Inhabited Stk := ⟨stk0⟩
theorem open_stksF {fuel : Nat} {cs : List Value} {x : DataW H × List MemPlace} (h : DataW.trod enc Try.prog w base spare held fuel 23 cs = some x) :
    ∃ (A : Option Addr) (cap : Nat) (xs : List Stk), cs = [.slice A xs.length cap] ∧ xs.length ≤ cap ∧ cap ≤ 9223372036854775807 ∧ SStk w A xs := by
  rcases Go.Deep.open_slice underStk h with ⟨rfl, _⟩ | ⟨a, len, cap, m, n, D, Pl, rfl, _, hl, hm, hmm, _, hi⟩
  · exact ⟨none, 0, [], rfl, Nat.le_refl _, by omega, SStk.nil _ _⟩
  · have hlm : len ≤ m := by rw [hmm]; split <;> omega
    have each : ∀ i, i < len → ∃ s : Stk, w.cell? (a.add (i * 5)) = some (.int .i64 s.ow) ∧ w.cell? (a.add (i * 5 + 1)) = some (.int .i64 s.co) ∧ w.cell? (a.add (i * 5 + 2)) = some (.bool s.vt.neg) ∧ w.cell? (a.add (i * 5 + 3)) = some (.string s.vt.num) ∧ w.cell? (a.add (i * 5 + 4)) = some (.string s.vt.den) := by
      intro i hil
      obtain ⟨cs', hc, ht⟩ := hi i (by omega)
      obtain ⟨s, rfl⟩ := stk_cells ht
      rw [cellsStk] at hc
      obtain ⟨_, _, hat⟩ := World.cells?_some hc
      refine ⟨s, ?_, ?_, ?_, ?_, ?_⟩
      · have := hat 0 (by omega); rw [Go.Deep.add_add] at this; simpa using this
      · have := hat 1 (by omega); rw [Go.Deep.add_add] at this; simpa using this
      · have := hat 2 (by omega); rw [Go.Deep.add_add] at this; simpa using this
      · have := hat 3 (by omega); rw [Go.Deep.add_add] at this; simpa using this
      · have := hat 4 (by omega); rw [Go.Deep.add_add] at this; simpa using this
    obtain ⟨f, hf⟩ := Go.Deep.choose_lt each
    have hlen : ((List.range len).map f).length = len := by simp
    refine ⟨some a, cap, (List.range len).map f, by rw [hlen], by omega, by simpa [maxLen] using hm, ?_⟩
    intro hpos
    rw [hlen] at hpos
    obtain ⟨g, o, sp⟩ := a
    have hs : sp = none := by
      have := World.cell?_spot (hf 0 hpos).1
      rw [Nat.zero_mul] at this
      simpa [Addr.add] using this
    subst hs
    have hlt : g < w.heap.size := by
      have := World.block_lt_of_cell? w _ (hf 0 hpos).1
      rw [Nat.zero_mul] at this
      simpa [Addr.add] using this
    refine ⟨g, o, rfl, hlt, fun j hj => ?_⟩
    rw [hlen] at hj
    have hg : ((List.range len).map f).getD j stk0 = f j := by simp [List.getD_eq_getElem?_getD, hj]
    rw [hg]
    obtain ⟨e0, e1, e2, e3, e4⟩ := hf j hj
    rw [add_atStk] at e0 e1 e2 e3 e4
    exact ⟨e0, e1, e2, e3, e4, hlt⟩
set_option maxRecDepth 100000 in
/-- A list as an argument. -/
theorem open_stks {r : Reach} {b0 : Nat} {v : Value} {d : DataW H} {p : List MemPlace} (hv : Value.okWide Try.prog w r b0 23 v) (h : DataW.Trod enc Try.prog w base spare held 23 v d p) :
    ∃ (A : Option Addr) (cap : Nat) (xs : List Stk), v = .slice A xs.length cap ∧ xs.length ≤ cap ∧ cap ≤ 9223372036854775807 ∧ SStk w A xs := by
  obtain ⟨A, n, c, rfl⟩ := Go.WideShapes.okWide_slice underStk hv
  obtain ⟨fuel, hf⟩ := h
  obtain ⟨B, cap, xs, e, h1, h2, h3⟩ := open_stksF hf
  simp [Value.cells] at e
  obtain ⟨rfl, rfl, rfl⟩ := e
  exact ⟨_, _, xs, rfl, h1, h2, h3⟩
end
end Go.Proofs.Ytgdpcpbmjgaliaa
