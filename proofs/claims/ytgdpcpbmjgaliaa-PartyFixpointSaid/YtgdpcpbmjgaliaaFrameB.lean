/-
  Parties, lists of three and of two numbers as arguments; five arguments.
-/
import Derived.Test.YtgdpcpbmjgaliaaGZ
import Derived.Test.YtgdpcpbmjgaliaaPS
import Derived.OpenShut
import Derived.ChangeSlices
import Derived.Test.YtgdpcpbmjgaliaaPT
import Derived.Test.YtgdpcpbmjgaliaaPD
import Derived.Lib.SmallJoins
import Derived.Test.YtgdpcpbmjgaliaaPBm
namespace Go.Proofs.Ytgdpcpbmjgaliaa
section
open Go.RowKit Nd

theorem cellsStk : Try.prog.cellsOf 36 = 5 := by kernel_rfl
theorem cellsStk_int : Try.prog.cellsOf 3 = 1 := by kernel_rfl

section
variable {H : Type} {enc : TypeId × Value → H} {w : World} {base : Nat} {spare : Nat → Bool} {held : Bool}
set_option maxRecDepth 100000 in
/-- The cells of an element that lies in memory. -/
theorem stk_cells {fuel : Nat} {cs : List Value} {x : DataW H × List MemPlace} (h : DataW.trod enc Try.prog w base spare held fuel 36 cs = some x) :
    ∃ s : Stk, cs = [.int .i64 s.ow, .int .i64 s.co, .bool s.vt.neg, .string s.vt.num, .string s.vt.den] := by
  obtain ⟨ys, n, rfl, hx, hl, hlen, hf⟩ := DataW.trod_struct Try.underlying36 h
  rw [cellsStk] at hl
  match cs, hl with
  | [c0, c1, c2, c3, c4], _ =>
    match ys, hlen with
    | [y0, y1, y2], _ =>
      have h0 : DataW.trod enc Try.prog w base spare held n 3 (([c0, c1, c2, c3, c4].drop 0).take (Try.prog.cellsOf 3)) = some y0 := hf 0 _ rfl
      rw [cellsStk_int] at h0
      have g0 : DataW.trod enc Try.prog w base spare held n 3 [c0] = some y0 := h0
      have h1 : DataW.trod enc Try.prog w base spare held n 3 (([c0, c1, c2, c3, c4].drop 1).take (Try.prog.cellsOf 3)) = some y1 := hf 1 _ rfl
      rw [cellsStk_int] at h1
      have g1 : DataW.trod enc Try.prog w base spare held n 3 [c1] = some y1 := h1
      have h2 : DataW.trod enc Try.prog w base spare held n 33 (([c0, c1, c2, c3, c4].drop 2).take (Try.prog.cellsOf 33)) = some y2 := hf 2 _ rfl
      rw [cellsRat] at h2
      have g2 : DataW.trod enc Try.prog w base spare held n 33 [c2, c3, c4] = some y2 := h2
      obtain ⟨p0, e0, _, _⟩ := DataW.trod_int Try.underlying3 g0
      simp at e0
      subst e0
      obtain ⟨p1, e1, _, _⟩ := DataW.trod_int Try.underlying3 g1
      simp at e1
      subst e1
      obtain ⟨p2, e2, _, _⟩ := rat_cells g2
      simp at e2
      obtain ⟨rfl, rfl, rfl⟩ := e2
      exact ⟨⟨p0, p1, p2⟩, rfl⟩
instance : Inhabited Stk := ⟨stk0⟩
theorem open_stksF {fuel : Nat} {cs : List Value} {x : DataW H × List MemPlace} (h : DataW.trod enc Try.prog w base spare held fuel 23 cs = some x) :
    ∃ (A : Option Addr) (cap : Nat) (xs : List Stk), cs = [.slice A xs.length cap] ∧ xs.length ≤ cap ∧ cap ≤ 9223372036854775807 ∧ SStk w A xs := by
  rcases Go.Deep.open_slice underStk h with ⟨rfl, _⟩ | ⟨a, len, cap, m, n, D, Pl, rfl, _, hl, hm, hmm, _, hi⟩
  · exact ⟨none, 0, [], rfl, Nat.le_refl _, by omega, SStk.nil _ _⟩
  · have hlm : len ≤ m := by rw [hmm]; split <;> omega
    have each : ∀ i, i < len → ∃ s : Stk, w.cell? (a.add (i * 5)) = some (.int .i64 s.ow) ∧ w.cell? (a.add (i * 5 + 1)) = some (.int .i64 s.co) ∧ w.cell? (a.add (i * 5 + 2)) = some (.bool s.vt.neg) ∧ w.cell? (a.add (i * 5 + 3)) = some (.string s.vt.num) ∧ w.cell? (a.add (i * 5 + 4)) = some (.string s.vt.den) := by
      intro i hil
      obtain ⟨cs', hc, ht⟩ := hi i (by omega)
      obtain ⟨s, rfl⟩ := stk_cells ht
      rw [cellsStk] at hc
      obtain ⟨_, _, hat⟩ := World.cells?_some hc
      refine ⟨s, ?_, ?_, ?_, ?_, ?_⟩
      · have := hat 0 (by omega); rw [Go.Deep.add_add] at this; simpa using this
      · have := hat 1 (by omega); rw [Go.Deep.add_add] at this; simpa using this
      · have := hat 2 (by omega); rw [Go.Deep.add_add] at this; simpa using this
      · have := hat 3 (by omega); rw [Go.Deep.add_add] at this; simpa using this
      · have := hat 4 (by omega); rw [Go.Deep.add_add] at this; simpa using this
    obtain ⟨f, hf⟩ := Go.Deep.choose_lt each
    have hlen : ((List.range len).map f).length = len := by simp
    refine ⟨some a, cap, (List.range len).map f, by rw [hlen], by omega, by simpa [maxLen] using hm, ?_⟩
    intro hpos
    rw [hlen] at hpos
    obtain ⟨g, o, sp⟩ := a
    have hs : sp = none := by
      have := World.cell?_spot (hf 0 hpos).1
      rw [Nat.zero_mul] at this
      simpa [Addr.add] using this
    subst hs
    have hlt : g < w.heap.size := by
      have := World.block_lt_of_cell? w _ (hf 0 hpos).1
      rw [Nat.zero_mul] at this
      simpa [Addr.add] using this
    refine ⟨g, o, rfl, hlt, fun j hj => ?_⟩
    rw [hlen] at hj
    have hg : ((List.range len).map f).getD j stk0 = f j := by simp [List.getD_eq_getElem?_getD, hj]
    rw [hg]
    obtain ⟨e0, e1, e2, e3, e4⟩ := hf j hj
    rw [add_atStk] at e0 e1 e2 e3 e4
    exact ⟨e0, e1, e2, e3, e4, hlt⟩
set_option maxRecDepth 100000 in
/-- A list as an argument. -/
theorem open_stks {r : Reach} {b0 : Nat} {v : Value} {d : DataW H} {p : List MemPlace} (hv : Value.okWide Try.prog w r b0 23 v) (h : DataW.Trod enc Try.prog w base spare held 23 v d p) :
    ∃ (A : Option Addr) (cap : Nat) (xs : List Stk), v = .slice A xs.length cap ∧ xs.length ≤ cap ∧ cap ≤ 9223372036854775807 ∧ SStk w A xs := by
  obtain ⟨A, n, c, rfl⟩ := Go.WideShapes.okWide_slice underStk hv
  obtain ⟨fuel, hf⟩ := h
  obtain ⟨B, cap, xs, e, h1, h2, h3⟩ := open_stksF hf
  simp [Value.cells] at e
  obtain ⟨rfl, rfl, rfl⟩ := e
  exact ⟨_, _, xs, rfl, h1, h2, h3⟩
end
end

section
open Go.RowKit Nd

theorem cellsTi : Try.prog.cellsOf 38 = 2 := by kernel_rfl
theorem cellsTi_int : Try.prog.cellsOf 3 = 1 := by kernel_rfl

section
variable {H : Type} {enc : TypeId × Value → H} {w : World} {base : Nat} {spare : Nat → Bool} {held : Bool}
set_option maxRecDepth 100000 in
/-- The cells of an element that lies in memory. -/
theorem ti_cells {fuel : Nat} {cs : List Value} {x : DataW H × List MemPlace} (h : DataW.trod enc Try.prog w base spare held fuel 38 cs = some x) :
    ∃ s : Ti, cs = [.int .i64 s.a, .int .i64 s.b] := by
  obtain ⟨ys, n, rfl, hx, hl, hlen, hf⟩ := DataW.trod_struct Try.underlying38 h
  rw [cellsTi] at hl
  match cs, hl with
  | [c0, c1], _ =>
    match ys, hlen with
    | [y0, y1], _ =>
      have h0 : DataW.trod enc Try.prog w base spare held n 3 (([c0, c1].drop 0).take (Try.prog.cellsOf 3)) = some y0 := hf 0 _ rfl
      rw [cellsTi_int] at h0
      have g0 : DataW.trod enc Try.prog w base spare held n 3 [c0] = some y0 := h0
      have h1 : DataW.trod enc Try.prog w base spare held n 3 (([c0, c1].drop 1).take (Try.prog.cellsOf 3)) = some y1 := hf 1 _ rfl
      rw [cellsTi_int] at h1
      have g1 : DataW.trod enc Try.prog w base spare held n 3 [c1] = some y1 := h1
      obtain ⟨p0, e0, _, _⟩ := DataW.trod_int Try.underlying3 g0
      simp at e0
      subst e0
      obtain ⟨p1, e1, _, _⟩ := DataW.trod_int Try.underlying3 g1
      simp at e1
      subst e1
      exact ⟨⟨p0, p1⟩, rfl⟩
instance : Inhabited Ti := ⟨ti0⟩
theorem open_tisF {fuel : Nat} {cs : List Value} {x : DataW H × List MemPlace} (h : DataW.trod enc Try.prog w base spare held fuel 24 cs = some x) :
    ∃ (A : Option Addr) (cap : Nat) (xs : List Ti), cs = [.slice A xs.length cap] ∧ xs.length ≤ cap ∧ cap ≤ 9223372036854775807 ∧ STi w A xs := by
  rcases Go.Deep.open_slice underTi h with ⟨rfl, _⟩ | ⟨a, len, cap, m, n, D, Pl, rfl, _, hl, hm, hmm, _, hi⟩
  · exact ⟨none, 0, [], rfl, Nat.le_refl _, by omega, STi.nil _ _⟩
  · have hlm : len ≤ m := by rw [hmm]; split <;> omega
    have each : ∀ i, i < len → ∃ s : Ti, w.cell? (a.add (i * 2)) = some (.int .i64 s.a) ∧ w.cell? (a.add (i * 2 + 1)) = some (.int .i64 s.b) := by
      intro i hil
      obtain ⟨cs', hc, ht⟩ := hi i (by omega)
      obtain ⟨s, rfl⟩ := ti_cells ht
      rw [cellsTi] at hc
      obtain ⟨_, _, hat⟩ := World.cells?_some hc
      refine ⟨s, ?_, ?_⟩
      · have := hat 0 (by omega); rw [Go.Deep.add_add] at this; simpa using this
      · have := hat 1 (by omega); rw [Go.Deep.add_add] at this; simpa using this
    obtain ⟨f, hf⟩ := Go.Deep.choose_lt each
    have hlen : ((List.range len).map f).length = len := by simp
    refine ⟨some a, cap, (List.range len).map f, by rw [hlen], by omega, by simpa [maxLen] using hm, ?_⟩
    intro hpos
    rw [hlen] at hpos
    obtain ⟨g, o, sp⟩ := a
    have hs : sp = none := by
      have := World.cell?_spot (hf 0 hpos).1
      rw [Nat.zero_mul] at this
      simpa [Addr.add] using this
    subst hs
    have hlt : g < w.heap.size := by
      have := World.block_lt_of_cell? w _ (hf 0 hpos).1
      rw [Nat.zero_mul] at this
      simpa [Addr.add] using this
    refine ⟨g, o, rfl, hlt, fun j hj => ?_⟩
    rw [hlen] at hj
    have hg : ((List.range len).map f).getD j ti0 = f j := by simp [List.getD_eq_getElem?_getD, hj]
    rw [hg]
    obtain ⟨e0, e1⟩ := hf j hj
    rw [add_atTi] at e0 e1
    exact ⟨e0, e1, hlt⟩
set_option maxRecDepth 100000 in
/-- A list as an argument. -/
theorem open_tis {r : Reach} {b0 : Nat} {v : Value} {d : DataW H} {p : List MemPlace} (hv : Value.okWide Try.prog w r b0 24 v) (h : DataW.Trod enc Try.prog w base spare held 24 v d p) :
    ∃ (A : Option Addr) (cap : Nat) (xs : List Ti), v = .slice A xs.length cap ∧ xs.length ≤ cap ∧ cap ≤ 9223372036854775807 ∧ STi w A xs := by
  obtain ⟨A, n, c, rfl⟩ := Go.WideShapes.okWide_slice underTi hv
  obtain ⟨fuel, hf⟩ := h
  obtain ⟨B, cap, xs, e, h1, h2, h3⟩ := open_tisF hf
  simp [Value.cells] at e
  obtain ⟨rfl, rfl, rfl⟩ := e
  exact ⟨_, _, xs, rfl, h1, h2, h3⟩
end
end

section
open Go.RowKit Nd
open Go.ChangeShapes (open_ints)

theorem rngU16 {a : Int} (h : (Lit.int .u16 a).wf = true) : 0 ≤ a ∧ a ≤ 65535 := by simpa [Lit.wf, IntKind.min, IntKind.max, IntKind.signed, IntKind.bits] using h
theorem rngU8 {a : Int} (h : (Lit.int .u8 a).wf = true) : 0 ≤ a ∧ a ≤ 255 := by simpa [Lit.wf, IntKind.min, IntKind.max, IntKind.signed, IntKind.bits] using h
theorem cellsPty : Try.prog.cellsOf 26 = 3 := by kernel_rfl
theorem cellsZn : Try.prog.cellsOf 3 = 1 := by kernel_rfl
section
variable {H : Type} {enc : TypeId × Value → H} {w : World} {base : Nat} {spare : Nat → Bool} {held : Bool}
theorem open_znsF {fuel : Nat} {cs : List Value} {x : DataW H × List MemPlace} (hf : DataW.trod enc Try.prog w base spare held fuel 22 cs = some x) :
    ∃ (A : Option Addr) (cap : Nat) (xs : List Zn), cs = [.slice A xs.length cap] ∧ xs.length ≤ 9223372036854775807 ∧ SZn w A xs := by
  rcases open_ints underZn Try.underlying3 cellsZn hf with ⟨hcs, _⟩ | ⟨a, len, cap, zs, hcs, _, hl, hm, hz, _, hcell, hwz⟩
  · exact ⟨none, 0, [], by simpa using hcs, by simp, SZn.nil _ _⟩
  · have hlz : len ≤ zs.length := by rw [hz]; split <;> omega
    have hlen : ((zs.take len).map Zn.mk).length = len := by rw [List.length_map, List.length_take]; omega
    refine ⟨some a, cap, (zs.take len).map Zn.mk, by rw [hlen]; exact hcs, by rw [hlen]; unfold maxLen at hm; omega, ?_⟩
    intro hpos
    rw [hlen] at hpos
    obtain ⟨g, o, sp⟩ := a
    have h0 := hcell 0 (by omega)
    have hs : sp = none := by
      have := World.cell?_spot h0
      simpa [Addr.add] using this
    subst hs
    have hlt : g < w.heap.size := by
      have := World.block_lt_of_cell? w _ h0
      simpa [Addr.add] using this
    refine ⟨g, o, rfl, hlt, fun j hj => ⟨?_, hlt⟩⟩
    rw [hlen] at hj
    have h1 := hcell j (by omega)
    rw [add_lit] at h1
    rw [Nat.mul_one, h1]
    simp [List.getD_eq_getElem?_getD, hj, zn0]
set_option maxRecDepth 100000 in
/-- Parties as an argument. -/
theorem open_parties {r : Reach} {b0 : Nat} {v : Value} {d : DataW H} {p : List MemPlace} (hv : Value.okWide Try.prog w r b0 26 v) (h : DataW.Trod enc Try.prog w base spare held 26 v d p) :
    ∃ P : PV, v = P.val ∧ P.At w := by
  obtain ⟨c0, c1, c2, y0, y1, y2, m, rfl, -, -, hy0, hy1, hy2⟩ := Go.Joins.open_agg3 Try.underlying26 (by kernel_rfl) cellsPty hv h
  obtain ⟨A0, n0, K, e0, l0, s0⟩ := open_znsF hy0
  obtain ⟨A1, n1, S, e1, l1, m1, s1⟩ := open_stksF hy1
  obtain ⟨A2, n2, T, e2, l2, m2, s2⟩ := open_tisF hy2
  simp at e0 e1 e2
  subst e0 e1 e2
  exact ⟨⟨K, S, T, K.length, S.length, T.length, A0, A1, A2, n0, n1, n2⟩, rfl, rfl, rfl, rfl, l0, Nat.le_trans l1 m1, Nat.le_trans l2 m2, s0, s1, s2⟩
end
end

section
open Go.RowKit Nd

theorem cellsT3 : Try.prog.cellsOf 80 = 3 := by kernel_rfl
theorem cellsT3_1 : Try.prog.cellsOf 50 = 1 := by kernel_rfl
theorem rngT3 {a : Int} (h : (Lit.int .u16 a).wf = true) : 0 ≤ a ∧ a ≤ 65535 := by simpa [Lit.wf, IntKind.min, IntKind.max, IntKind.signed, IntKind.bits] using h
theorem underT3 : Try.prog.underlying 51 = some (.slice 80) := Try.underlying51
instance : Inhabited T3 := ⟨t30⟩
section
variable {H : Type} {enc : TypeId × Value → H} {w : World} {base : Nat} {spare : Nat → Bool} {held : Bool}
set_option maxRecDepth 100000 in
theorem t3_cells {fuel : Nat} {cs : List Value} {x : DataW H × List MemPlace} (h : DataW.trod enc Try.prog w base spare held fuel 80 cs = some x) :
    ∃ s : T3, cs = [.int .u16 s.a, .int .u16 s.b, .int .u16 s.c] ∧ InT3 s := by
  obtain ⟨ys, n, rfl, hx, hl, hlen, hf⟩ := DataW.trod_array Try.underlying80 h
  rw [cellsT3] at hl
  rw [cellsT3_1] at hf
  match cs, hl with
  | [c0, c1, c2], _ =>
    match ys, hlen with
    | [y0, y1, y2], _ =>
      have g0 : DataW.trod enc Try.prog w base spare held n 50 [c0] = some y0 := hf 0 (by omega)
      obtain ⟨p0, e0, _, w0⟩ := DataW.trod_int Try.underlying50 g0
      simp at e0
      subst e0
      have g1 : DataW.trod enc Try.prog w base spare held n 50 [c1] = some y1 := hf 1 (by omega)
      obtain ⟨p1, e1, _, w1⟩ := DataW.trod_int Try.underlying50 g1
      simp at e1
      subst e1
      have g2 : DataW.trod enc Try.prog w base spare held n 50 [c2] = some y2 := hf 2 (by omega)
      obtain ⟨p2, e2, _, w2⟩ := DataW.trod_int Try.underlying50 g2
      simp at e2
      subst e2
      exact ⟨⟨p0, p1, p2⟩, rfl, (rngT3 w0).1, (rngT3 w0).2, (rngT3 w1).1, (rngT3 w1).2, (rngT3 w2).1, (rngT3 w2).2⟩
theorem open_t3sF {fuel : Nat} {cs : List Value} {x : DataW H × List MemPlace} (h : DataW.trod enc Try.prog w base spare held fuel 51 cs = some x) :
    ∃ (A : Option Addr) (cap : Nat) (xs : List T3), cs = [.slice A xs.length cap] ∧ xs.length ≤ cap ∧ cap ≤ 9223372036854775807 ∧ ST3 w A xs ∧ ∀ x ∈ xs, InT3 x := by
  rcases Go.Deep.open_slice underT3 h with ⟨rfl, _⟩ | ⟨a, len, cap, m, n, D, Pl, rfl, _, hl, hm, hmm, _, hi⟩
  · exact ⟨none, 0, [], rfl, Nat.le_refl _, by omega, ST3.nil _ _, fun _ h => by cases h⟩
  · have hlm : len ≤ m := by rw [hmm]; split <;> omega
    have each : ∀ i, i < len → ∃ s : T3, (w.cell? (a.add (i * 3)) = some (.int .u16 s.a) ∧ w.cell? (a.add (i * 3 + 1)) = some (.int .u16 s.b) ∧ w.cell? (a.add (i * 3 + 2)) = some (.int .u16 s.c)) ∧ InT3 s := by
      intro i hil
      obtain ⟨cs', hc, ht⟩ := hi i (by omega)
      obtain ⟨s, rfl, hin⟩ := t3_cells ht
      rw [cellsT3] at hc
      obtain ⟨_, _, hat⟩ := World.cells?_some hc
      refine ⟨s, ⟨?_, ?_, ?_⟩, hin⟩
      · have := hat 0 (by omega); rw [Go.Deep.add_add] at this; simpa using this
      · have := hat 1 (by omega); rw [Go.Deep.add_add] at this; simpa using this
      · have := hat 2 (by omega); rw [Go.Deep.add_add] at this; simpa using this
    obtain ⟨f, hf⟩ := Go.Deep.choose_lt each
    have hlen : ((List.range len).map f).length = len := by simp
    refine ⟨some a, cap, (List.range len).map f, by rw [hlen], by omega, by simpa [maxLen] using hm, ?_, ?_⟩
    · intro hpos
      rw [hlen] at hpos
      obtain ⟨g, o, sp⟩ := a
      have hs : sp = none := by
        have := World.cell?_spot (hf 0 hpos).1.1
        rw [Nat.zero_mul] at this
        simpa [Addr.add] using this
      subst hs
      have hlt : g < w.heap.size := by
        have := World.block_lt_of_cell? w _ (hf 0 hpos).1.1
        rw [Nat.zero_mul] at this
        simpa [Addr.add] using this
      refine ⟨g, o, rfl, hlt, fun j hj => ?_⟩
      rw [hlen] at hj
      have hg : ((List.range len).map f).getD j t30 = f j := by simp [List.getD_eq_getElem?_getD, hj]
      rw [hg]
      obtain ⟨e0, e1, e2⟩ := (hf j hj).1
      rw [add_atTi] at e0 e1 e2
      exact ⟨e0, e1, e2, hlt⟩
    · intro x hx
      obtain ⟨j, hj, rfl⟩ := List.mem_map.1 hx
      exact (hf j (List.mem_range.1 hj)).2
set_option maxRecDepth 100000 in
/-- A list as an argument. -/
theorem open_t3s {r : Reach} {b0 : Nat} {v : Value} {d : DataW H} {p : List MemPlace} (hv : Value.okWide Try.prog w r b0 51 v) (h : DataW.Trod enc Try.prog w base spare held 51 v d p) :
    ∃ (A : Option Addr) (cap : Nat) (xs : List T3), v = .slice A xs.length cap ∧ xs.length ≤ cap ∧ cap ≤ 9223372036854775807 ∧ ST3 w A xs ∧ ∀ x ∈ xs, InT3 x := by
  obtain ⟨A, n, c, rfl⟩ := Go.WideShapes.okWide_slice underT3 hv
  obtain ⟨fuel, hf⟩ := h
  obtain ⟨B, cap, xs, e, h1, h2, h3⟩ := open_t3sF hf
  simp [Value.cells] at e
  obtain ⟨rfl, rfl, rfl⟩ := e
  exact ⟨_, _, xs, rfl, h1, h2, h3⟩
end
end

section
open Go.RowKit Nd

theorem cellsT2 : Try.prog.cellsOf 81 = 2 := by kernel_rfl
theorem cellsT2_1 : Try.prog.cellsOf 50 = 1 := by kernel_rfl
theorem rngT2 {a : Int} (h : (Lit.int .u16 a).wf = true) : 0 ≤ a ∧ a ≤ 65535 := by simpa [Lit.wf, IntKind.min, IntKind.max, IntKind.signed, IntKind.bits] using h
theorem underT2 : Try.prog.underlying 52 = some (.slice 81) := Try.underlying52
instance : Inhabited T2 := ⟨t20⟩
section
variable {H : Type} {enc : TypeId × Value → H} {w : World} {base : Nat} {spare : Nat → Bool} {held : Bool}
set_option maxRecDepth 100000 in
theorem t2_cells {fuel : Nat} {cs : List Value} {x : DataW H × List MemPlace} (h : DataW.trod enc Try.prog w base spare held fuel 81 cs = some x) :
    ∃ s : T2, cs = [.int .u16 s.a, .int .u16 s.b] ∧ InT2 s := by
  obtain ⟨ys, n, rfl, hx, hl, hlen, hf⟩ := DataW.trod_array Try.underlying81 h
  rw [cellsT2] at hl
  rw [cellsT2_1] at hf
  match cs, hl with
  | [c0, c1], _ =>
    match ys, hlen with
    | [y0, y1], _ =>
      have g0 : DataW.trod enc Try.prog w base spare held n 50 [c0] = some y0 := hf 0 (by omega)
      obtain ⟨p0, e0, _, w0⟩ := DataW.trod_int Try.underlying50 g0
      simp at e0
      subst e0
      have g1 : DataW.trod enc Try.prog w base spare held n 50 [c1] = some y1 := hf 1 (by omega)
      obtain ⟨p1, e1, _, w1⟩ := DataW.trod_int Try.underlying50 g1
      simp at e1
      subst e1
      exact ⟨⟨p0, p1⟩, rfl, (rngT2 w0).1, (rngT2 w0).2, (rngT2 w1).1, (rngT2 w1).2⟩
theorem open_t2sF {fuel : Nat} {cs : List Value} {x : DataW H × List MemPlace} (h : DataW.trod enc Try.prog w base spare held fuel 52 cs = some x) :
    ∃ (A : Option Addr) (cap : Nat) (xs : List T2), cs = [.slice A xs.length cap] ∧ xs.length ≤ cap ∧ cap ≤ 9223372036854775807 ∧ ST2 w A xs ∧ ∀ x ∈ xs, InT2 x := by
  rcases Go.Deep.open_slice underT2 h with ⟨rfl, _⟩ | ⟨a, len, cap, m, n, D, Pl, rfl, _, hl, hm, hmm, _, hi⟩
  · exact ⟨none, 0, [], rfl, Nat.le_refl _, by omega, ST2.nil _ _, fun _ h => by cases h⟩
  · have hlm : len ≤ m := by rw [hmm]; split <;> omega
    have each : ∀ i, i < len → ∃ s : T2, (w.cell? (a.add (i * 2)) = some (.int .u16 s.a) ∧ w.cell? (a.add (i * 2 + 1)) = some (.int .u16 s.b)) ∧ InT2 s := by
      intro i hil
      obtain ⟨cs', hc, ht⟩ := hi i (by omega)
      obtain ⟨s, rfl, hin⟩ := t2_cells ht
      rw [cellsT2] at hc
      obtain ⟨_, _, hat⟩ := World.cells?_some hc
      refine ⟨s, ⟨?_, ?_⟩, hin⟩
      · have := hat 0 (by omega); rw [Go.Deep.add_add] at this; simpa using this
      · have := hat 1 (by omega); rw [Go.Deep.add_add] at this; simpa using this
    obtain ⟨f, hf⟩ := Go.Deep.choose_lt each
    have hlen : ((List.range len).map f).length = len := by simp
    refine ⟨some a, cap, (List.range len).map f, by rw [hlen], by omega, by simpa [maxLen] using hm, ?_, ?_⟩
    · intro hpos
      rw [hlen] at hpos
      obtain ⟨g, o, sp⟩ := a
      have hs : sp = none := by
        have := World.cell?_spot (hf 0 hpos).1.1
        rw [Nat.zero_mul] at this
        simpa [Addr.add] using this
      subst hs
      have hlt : g < w.heap.size := by
        have := World.block_lt_of_cell? w _ (hf 0 hpos).1.1
        rw [Nat.zero_mul] at this
        simpa [Addr.add] using this
      refine ⟨g, o, rfl, hlt, fun j hj => ?_⟩
      rw [hlen] at hj
      have hg : ((List.range len).map f).getD j t20 = f j := by simp [List.getD_eq_getElem?_getD, hj]
      rw [hg]
      obtain ⟨e0, e1⟩ := (hf j hj).1
      rw [add_atTi] at e0 e1
      exact ⟨e0, e1, hlt⟩
    · intro x hx
      obtain ⟨j, hj, rfl⟩ := List.mem_map.1 hx
      exact (hf j (List.mem_range.1 hj)).2
set_option maxRecDepth 100000 in
/-- A list as an argument. -/
theorem open_t2s {r : Reach} {b0 : Nat} {v : Value} {d : DataW H} {p : List MemPlace} (hv : Value.okWide Try.prog w r b0 52 v) (h : DataW.Trod enc Try.prog w base spare held 52 v d p) :
    ∃ (A : Option Addr) (cap : Nat) (xs : List T2), v = .slice A xs.length cap ∧ xs.length ≤ cap ∧ cap ≤ 9223372036854775807 ∧ ST2 w A xs ∧ ∀ x ∈ xs, InT2 x := by
  obtain ⟨A, n, c, rfl⟩ := Go.WideShapes.okWide_slice underT2 hv
  obtain ⟨fuel, hf⟩ := h
  obtain ⟨B, cap, xs, e, h1, h2, h3⟩ := open_t2sF hf
  simp [Value.cells] at e
  obtain ⟨rfl, rfl, rfl⟩ := e
  exact ⟨_, _, xs, rfl, h1, h2, h3⟩
end
end
section
open Go.RowKit Nd
open Go.ChangeShapes Go.WideShapes Go.ChangeAt
section
variable {H : Type} {enc : TypeId × Value → H} {P : Program} {w : World} {base : Nat} {spare : Nat → Bool} {held : Bool}
theorem trodAll_five {t0 t1 t2 t3 t4 : TypeId} {args : Array Value} {ds : List (DataW H)} {ps : List MemPlace} (h : DataW.TrodAll enc P w base spare held [t0, t1, t2, t3, t4] args.toList ds ps) :
    ∃ v0 v1 v2 v3 v4 d0 d1 d2 d3 d4 p0 p1 p2 p3 p4, args = #[v0, v1, v2, v3, v4] ∧ ds = [d0, d1, d2, d3, d4] ∧ ps = p0 ++ (p1 ++ p2 ++ p3 ++ p4) ∧ DataW.Trod enc P w base spare held t0 v0 d0 p0 ∧ DataW.Trod enc P w base spare held t1 v1 d1 p1 ∧ DataW.Trod enc P w base spare held t2 v2 d2 p2 ∧ DataW.Trod enc P w base spare held t3 v3 d3 p3 ∧ DataW.Trod enc P w base spare held t4 v4 d4 p4 := by
  obtain ⟨v0, vs, d0, ds', p0, q, ha, rfl, rfl, h0, hr⟩ := trodAll_cons h
  obtain ⟨v1, v2, v3, v4, d1, d2, d3, d4, p1, p2, p3, p4, e, rfl, rfl, h1, h2, h3, h4⟩ := trodAll_four (args := vs.toArray) (by simpa using hr)
  refine ⟨v0, v1, v2, v3, v4, d0, d1, d2, d3, d4, p0, p1, p2, p3, p4, ?_, rfl, rfl, h0, h1, h2, h3, h4⟩
  have e2 : vs = [v1, v2, v3, v4] := by simpa using congrArg Array.toList e
  subst e2
  apply Array.toList_inj.1
  rw [ha]
end
end
end Go.Proofs.Ytgdpcpbmjgaliaa
