/-
  Lists of 3 numbers each as arguments: opened.
-/
import Derived.Test.YtkdcffcgedhllaaGZ
import Derived.Test.YtkdcffcgedhllaaKT
import Derived.Test.YtkdcffcgedhllaaKS
import Derived.OpenShut
import Derived.ChangeSlices
namespace Go.Proofs.Ytkdcffcgedhllaa
open Go.RowKit Nd

theorem cellsT3 : Try.prog.cellsOf 65 = 3 := by kernel_rfl
theorem cellsT3_1 : Try.prog.cellsOf 28 = 1 := by kernel_rfl
theorem rngT3 {a : Int} (h : (Lit.int .u16 a).wf = true) : 0 ≤ a ∧ a ≤ 65535 := by simpa [Lit.wf, IntKind.min, IntKind.max, IntKind.signed, IntKind.bits] using h
theorem underT3 : Try.prog.underlying 44 = some (.slice 65) := Try.underlying44
instance : Inhabited T3 := ⟨t30⟩
section
variable {H : Type} {enc : TypeId × Value → H} {w : World} {base : Nat} {spare : Nat → Bool} {held : Bool}
set_option maxRecDepth 100000 in
theorem t3_cells {fuel : Nat} {cs : List Value} {x : DataW H × List MemPlace} (h : DataW.trod enc Try.prog w base spare held fuel 65 cs = some x) :
    ∃ s : T3, cs = [.int .u16 s.a, .int .u16 s.b, .int .u16 s.c] ∧ InT3 s := by
  obtain ⟨ys, n, rfl, hx, hl, hlen, hf⟩ := DataW.trod_array Try.underlying65 h
  rw [cellsT3] at hl
  rw [cellsT3_1] at hf
  match cs, hl with
  | [c0, c1, c2], _ =>
    match ys, hlen with
    | [y0, y1, y2], _ =>
      have g0 : DataW.trod enc Try.prog w base spare held n 28 [c0] = some y0 := hf 0 (by omega)
      obtain ⟨p0, e0, _, w0⟩ := DataW.trod_int Try.underlying28 g0
      simp at e0
      subst e0
      have g1 : DataW.trod enc Try.prog w base spare held n 28 [c1] = some y1 := hf 1 (by omega)
      obtain ⟨p1, e1, _, w1⟩ := DataW.trod_int Try.underlying28 g1
      simp at e1
      subst e1
      have g2 : DataW.trod enc Try.prog w base spare held n 28 [c2] = some y2 := hf 2 (by omega)
      obtain ⟨p2, e2, _, w2⟩ := DataW.trod_int Try.underlying28 g2
      simp at e2
      subst e2
      exact ⟨⟨p0, p1, p2⟩, rfl, (rngT3 w0).1, (rngT3 w0).2, (rngT3 w1).1, (rngT3 w1).2, (rngT3 w2).1, (rngT3 w2).2⟩
theorem open_t3sF {fuel : Nat} {cs : List Value} {x : DataW H × List MemPlace} (h : DataW.trod enc Try.prog w base spare held fuel 44 cs = some x) :
    ∃ (A : Option Addr) (cap : Nat) (xs : List T3), cs = [.slice A xs.length cap] ∧ xs.length ≤ cap ∧ cap ≤ 9223372036854775807 ∧ ST3 w A xs ∧ ∀ x ∈ xs, InT3 x := by
  rcases Go.Deep.open_slice underT3 h with ⟨rfl, _⟩ | ⟨a, len, cap, m, n, D, Pl, rfl, _, hl, hm, hmm, _, hi⟩
  · exact ⟨none, 0, [], rfl, Nat.le_refl _, by omega, ST3.nil _ _, fun _ h => by cases h⟩
  · have hlm : len ≤ m := by rw [hmm]; split <;> omega
    have each : ∀ i, i < len → ∃ s : T3, (w.cell? (a.add (i * 3)) = some (.int .u16 s.a) ∧ w.cell? (a.add (i * 3 + 1)) = some (.int .u16 s.b) ∧ w.cell? (a.add (i * 3 + 2)) = some (.int .u16 s.c)) ∧ InT3 s := by
      intro i hil
      obtain ⟨cs', hc, ht⟩ := hi i (by omega)
      obtain ⟨s, rfl, hin⟩ := t3_cells ht
      rw [cellsT3] at hc
      obtain ⟨_, _, hat⟩ := World.cells?_some hc
      refine ⟨s, ⟨?_, ?_, ?_⟩, hin⟩
      · have := hat 0 (by omega); rw [Go.Deep.add_add] at this; simpa using this
      · have := hat 1 (by omega); rw [Go.Deep.add_add] at this; simpa using this
      · have := hat 2 (by omega); rw [Go.Deep.add_add] at this; simpa using this
    obtain ⟨f, hf⟩ := Go.Deep.choose_lt each
    have hlen : ((List.range len).map f).length = len := by simp
    refine ⟨some a, cap, (List.range len).map f, by rw [hlen], by omega, by simpa [maxLen] using hm, ?_, ?_⟩
    · intro hpos
      rw [hlen] at hpos
      obtain ⟨g, o, sp⟩ := a
      have hs : sp = none := by
        have := World.cell?_spot (hf 0 hpos).1.1
        rw [Nat.zero_mul] at this
        simpa [Addr.add] using this
      subst hs
      have hlt : g < w.heap.size := by
        have := World.block_lt_of_cell? w _ (hf 0 hpos).1.1
        rw [Nat.zero_mul] at this
        simpa [Addr.add] using this
      refine ⟨g, o, rfl, hlt, fun j hj => ?_⟩
      rw [hlen] at hj
      have hg : ((List.range len).map f).getD j t30 = f j := by simp [List.getD_eq_getElem?_getD, hj]
      rw [hg]
      obtain ⟨e0, e1, e2⟩ := (hf j hj).1
      rw [add_atQt] at e0 e1 e2
      exact ⟨e0, e1, e2, hlt⟩
    · intro x hx
      obtain ⟨j, hj, rfl⟩ := List.mem_map.1 hx
      exact (hf j (List.mem_range.1 hj)).2
set_option maxRecDepth 100000 in
/-- A list as an argument. -/
theorem open_t3s {r : Reach} {b0 : Nat} {v : Value} {d : DataW H} {p : List MemPlace} (hv : Value.okWide Try.prog w r b0 44 v) (h : DataW.Trod enc Try.prog w base spare held 44 v d p) :
    ∃ (A : Option Addr) (cap : Nat) (xs : List T3), v = .slice A xs.length cap ∧ xs.length ≤ cap ∧ cap ≤ 9223372036854775807 ∧ ST3 w A xs ∧ ∀ x ∈ xs, InT3 x := by
  obtain ⟨A, n, c, rfl⟩ := Go.WideShapes.okWide_slice underT3 hv
  obtain ⟨fuel, hf⟩ := h
  obtain ⟨B, cap, xs, e, h1, h2, h3⟩ := open_t3sF hf
  simp [Value.cells] at e
  obtain ⟨rfl, rfl, rfl⟩ := e
  exact ⟨_, _, xs, rfl, h1, h2, h3⟩
end
end Go.Proofs.Ytkdcffcgedhllaa
