/-
  Lists of steps, and lists of pairs of numbers, as arguments: opened.
-/
import Derived.Test.YtcfejphpflafiaaGZ
import Derived.Test.YtcfejphpflafiaaIB
import Derived.OpenShut
import Derived.ChangeSlices
namespace Go.Proofs.Ytcfejphpflafiaa
open Go.RowKit Nd

theorem cellsStep : Try.prog.cellsOf 49 = 4 := by kernel_rfl
theorem cellsI64 : Try.prog.cellsOf 3 = 1 := by kernel_rfl
theorem cellsU16 : Try.prog.cellsOf 39 = 1 := by kernel_rfl
theorem cellsPair : Try.prog.cellsOf 65 = 2 := by kernel_rfl
theorem rngU16 {a : Int} (h : (Lit.int .u16 a).wf = true) : 0 ≤ a ∧ a ≤ 65535 := by simpa [Lit.wf, IntKind.min, IntKind.max, IntKind.signed, IntKind.bits] using h
theorem rngU8 {a : Int} (h : (Lit.int .u8 a).wf = true) : 0 ≤ a ∧ a ≤ 255 := by simpa [Lit.wf, IntKind.min, IntKind.max, IntKind.signed, IntKind.bits] using h

section
variable {H : Type} {enc : TypeId × Value → H} {w : World} {base : Nat} {spare : Nat → Bool} {held : Bool}
set_option maxRecDepth 100000 in
/-- The cells of a step that lies in memory. -/
theorem step_cells {fuel : Nat} {cs : List Value} {x : DataW H × List MemPlace} (h : DataW.trod enc Try.prog w base spare held fuel 49 cs = some x) :
    ∃ s : St, cs = [.int .i64 s.fr, .bool s.rt.neg, .string s.rt.num, .string s.rt.den] := by
  obtain ⟨ys, n, rfl, hx, hl, hlen, hf⟩ := DataW.trod_struct Try.underlying49 h
  rw [cellsStep] at hl
  match cs, hl with
  | [c0, c1, c2, c3], _ =>
    match ys, hlen with
    | [y0, y1], _ =>
      have h0 : DataW.trod enc Try.prog w base spare held n 3 (([c0, c1, c2, c3].drop 0).take (Try.prog.cellsOf 3)) = some y0 := hf 0 _ rfl
      have h1 : DataW.trod enc Try.prog w base spare held n 29 (([c0, c1, c2, c3].drop 1).take (Try.prog.cellsOf 29)) = some y1 := hf 1 _ rfl
      rw [cellsI64] at h0
      rw [cellsRat] at h1
      have g0 : DataW.trod enc Try.prog w base spare held n 3 [c0] = some y0 := h0
      have g1 : DataW.trod enc Try.prog w base spare held n 29 [c1, c2, c3] = some y1 := h1
      obtain ⟨b, e0, _, _⟩ := DataW.trod_int Try.underlying3 g0
      obtain ⟨q, e1, _, _⟩ := rat_cells g1
      simp at e0 e1
      obtain ⟨rfl, rfl, rfl⟩ := e1
      subst e0
      exact ⟨⟨b, q⟩, rfl⟩
instance : Inhabited St := ⟨s0⟩
theorem open_stepsF {fuel : Nat} {cs : List Value} {x : DataW H × List MemPlace} (h : DataW.trod enc Try.prog w base spare held fuel 22 cs = some x) :
    ∃ (A : Option Addr) (cap : Nat) (xs : List St), cs = [.slice A xs.length cap] ∧ xs.length ≤ cap ∧ cap ≤ 9223372036854775807 ∧ Sds w A xs := by
  rcases Go.Deep.open_slice underSteps h with ⟨rfl, _⟩ | ⟨a, len, cap, m, n, D, Pl, rfl, _, hl, hm, hmm, _, hi⟩
  · exact ⟨none, 0, [], rfl, Nat.le_refl _, by omega, Sds.nil _ _⟩
  · have hlm : len ≤ m := by rw [hmm]; split <;> omega
    have each : ∀ i, i < len → ∃ s : St, w.cell? (a.add (i * 4)) = some (.int .i64 s.fr) ∧ w.cell? (a.add (i * 4 + 1)) = some (.bool s.rt.neg) ∧ w.cell? (a.add (i * 4 + 2)) = some (.string s.rt.num) ∧ w.cell? (a.add (i * 4 + 3)) = some (.string s.rt.den) := by
      intro i hil
      obtain ⟨cs', hc, ht⟩ := hi i (by omega)
      obtain ⟨s, rfl⟩ := step_cells ht
      rw [cellsStep] at hc
      obtain ⟨_, _, hat⟩ := World.cells?_some hc
      refine ⟨s, ?_, ?_, ?_, ?_⟩
      · have := hat 0 (by omega); rw [Go.Deep.add_add] at this; simpa using this
      · have := hat 1 (by omega); rw [Go.Deep.add_add] at this; simpa using this
      · have := hat 2 (by omega); rw [Go.Deep.add_add] at this; simpa using this
      · have := hat 3 (by omega); rw [Go.Deep.add_add] at this; simpa using this
    obtain ⟨f, hf⟩ := Go.Deep.choose_lt each
    have hlen : ((List.range len).map f).length = len := by simp
    refine ⟨some a, cap, (List.range len).map f, by rw [hlen], by omega, by simpa [maxLen] using hm, ?_⟩
    intro hpos
    rw [hlen] at hpos
    obtain ⟨g, o, sp⟩ := a
    have hs : sp = none := by
      have := World.cell?_spot (hf 0 hpos).1
      rw [Nat.zero_mul] at this
      simpa [Addr.add] using this
    subst hs
    have hlt : g < w.heap.size := by
      have := World.block_lt_of_cell? w _ (hf 0 hpos).1
      rw [Nat.zero_mul] at this
      simpa [Addr.add] using this
    refine ⟨g, o, rfl, hlt, fun j hj => ?_⟩
    rw [hlen] at hj
    have hg : ((List.range len).map f).getD j s0 = f j := by simp [List.getD_eq_getElem?_getD, hj]
    rw [hg]
    obtain ⟨e0, e1, e2, e3⟩ := hf j hj
    rw [add_at] at e0 e1 e2 e3
    exact ⟨e0, e1, e2, e3, hlt⟩
set_option maxRecDepth 100000 in
/-- A list of steps as an argument. -/
theorem open_steps {r : Reach} {b0 : Nat} {v : Value} {d : DataW H} {p : List MemPlace} (hv : Value.okWide Try.prog w r b0 22 v) (h : DataW.Trod enc Try.prog w base spare held 22 v d p) :
    ∃ (A : Option Addr) (cap : Nat) (xs : List St), v = .slice A xs.length cap ∧ xs.length ≤ cap ∧ cap ≤ 9223372036854775807 ∧ Sds w A xs := by
  obtain ⟨A, n, c, rfl⟩ := Go.WideShapes.okWide_slice underSteps hv
  obtain ⟨fuel, hf⟩ := h
  obtain ⟨B, cap, xs, e, h1, h2, h3⟩ := open_stepsF hf
  simp [Value.cells] at e
  obtain ⟨rfl, rfl, rfl⟩ := e
  exact ⟨_, _, xs, rfl, h1, h2, h3⟩
set_option maxRecDepth 100000 in
theorem pair_cells {fuel : Nat} {cs : List Value} {x : DataW H × List MemPlace} (h : DataW.trod enc Try.prog w base spare held fuel 65 cs = some x) :
    ∃ s : Int × Int, cs = [.int .u16 s.1, .int .u16 s.2] ∧ (0 ≤ s.1 ∧ s.1 ≤ 65535) ∧ 0 ≤ s.2 ∧ s.2 ≤ 65535 := by
  obtain ⟨ys, n, rfl, hx, hl, hlen, hf⟩ := DataW.trod_array Try.underlying65 h
  rw [cellsPair] at hl
  rw [cellsU16] at hf
  match cs, hl with
  | [c0, c1], _ =>
    match ys, hlen with
    | [y0, y1], _ =>
      have g0 : DataW.trod enc Try.prog w base spare held n 39 [c0] = some y0 := hf 0 (by omega)
      have g1 : DataW.trod enc Try.prog w base spare held n 39 [c1] = some y1 := hf 1 (by omega)
      obtain ⟨a, e0, _, w0⟩ := DataW.trod_int Try.underlying39 g0
      obtain ⟨b, e1, _, w1⟩ := DataW.trod_int Try.underlying39 g1
      simp at e0 e1
      subst e0 e1
      exact ⟨(a, b), rfl, rngU16 w0, rngU16 w1⟩
theorem underPairs : Try.prog.underlying 40 = some (.slice 65) := Try.underlying40
theorem open_pairsF {fuel : Nat} {cs : List Value} {x : DataW H × List MemPlace} (h : DataW.trod enc Try.prog w base spare held fuel 40 cs = some x) :
    ∃ (A : Option Addr) (cap : Nat) (xs : List (Int × Int)), cs = [.slice A xs.length cap] ∧ xs.length ≤ cap ∧ cap ≤ 9223372036854775807 ∧ RdP w A xs ∧ ∀ x ∈ xs, (0 ≤ x.1 ∧ x.1 ≤ 65535) ∧ 0 ≤ x.2 ∧ x.2 ≤ 65535 := by
  rcases Go.Deep.open_slice underPairs h with ⟨rfl, _⟩ | ⟨a, len, cap, m, n, D, Pl, rfl, _, hl, hm, hmm, _, hi⟩
  · exact ⟨none, 0, [], rfl, Nat.le_refl _, by omega, fun h => absurd h (by simp), fun _ h => by cases h⟩
  · have hlm : len ≤ m := by rw [hmm]; split <;> omega
    have each : ∀ i, i < len → ∃ s : Int × Int, (w.cell? (a.add (i * 2)) = some (.int .u16 s.1) ∧ w.cell? (a.add (i * 2 + 1)) = some (.int .u16 s.2)) ∧ (0 ≤ s.1 ∧ s.1 ≤ 65535) ∧ 0 ≤ s.2 ∧ s.2 ≤ 65535 := by
      intro i hil
      obtain ⟨cs', hc, ht⟩ := hi i (by omega)
      obtain ⟨s, rfl, hr⟩ := pair_cells ht
      rw [cellsPair] at hc
      obtain ⟨_, _, hat⟩ := World.cells?_some hc
      refine ⟨s, ⟨?_, ?_⟩, hr⟩
      · have := hat 0 (by omega); rw [Go.Deep.add_add] at this; simpa using this
      · have := hat 1 (by omega); rw [Go.Deep.add_add] at this; simpa using this
    obtain ⟨f, hf⟩ := Go.Deep.choose_lt each
    have hlen : ((List.range len).map f).length = len := by simp
    refine ⟨some a, cap, (List.range len).map f, by rw [hlen], by omega, by simpa [maxLen] using hm, ?_, ?_⟩
    · intro hpos
      rw [hlen] at hpos
      obtain ⟨g, o, sp⟩ := a
      have hs : sp = none := by
        have := World.cell?_spot (hf 0 hpos).1.1
        rw [Nat.zero_mul] at this
        simpa [Addr.add] using this
      subst hs
      have hlt : g < w.heap.size := by
        have := World.block_lt_of_cell? w _ (hf 0 hpos).1.1
        rw [Nat.zero_mul] at this
        simpa [Addr.add] using this
      refine ⟨g, o, rfl, hlt, fun j hj => ?_⟩
      rw [hlen] at hj
      have hg : ((List.range len).map f).getD j (0, 0) = f j := by simp [List.getD_eq_getElem?_getD, hj]
      rw [hg]
      obtain ⟨e0, e1⟩ := (hf j hj).1
      rw [add_at] at e0 e1
      exact ⟨e0, e1⟩
    · intro x hx
      obtain ⟨j, hj, rfl⟩ := List.mem_map.1 hx
      exact (hf j (List.mem_range.1 hj)).2
set_option maxRecDepth 100000 in
/-- A list of pairs as an argument. -/
theorem open_pairs {r : Reach} {b0 : Nat} {v : Value} {d : DataW H} {p : List MemPlace} (hv : Value.okWide Try.prog w r b0 40 v) (h : DataW.Trod enc Try.prog w base spare held 40 v d p) :
    ∃ (A : Option Addr) (cap : Nat) (xs : List (Int × Int)), v = .slice A xs.length cap ∧ xs.length ≤ cap ∧ cap ≤ 9223372036854775807 ∧ RdP w A xs ∧ ∀ x ∈ xs, (0 ≤ x.1 ∧ x.1 ≤ 65535) ∧ 0 ≤ x.2 ∧ x.2 ≤ 65535 := by
  obtain ⟨A, n, c, rfl⟩ := Go.WideShapes.okWide_slice underPairs hv
  obtain ⟨fuel, hf⟩ := h
  obtain ⟨B, cap, xs, e, h1, h2, h3⟩ := open_pairsF hf
  simp [Value.cells] at e
  obtain ⟨rfl, rfl, rfl⟩ := e
  exact ⟨_, _, xs, rfl, h1, h2, h3⟩
end
end Go.Proofs.Ytcfejphpflafiaa
