/-
  Several parts put together: FrameD, FrameDD.
-/
import Derived.Test.YtogciehmdlfkfaaGreatDoorGZ
import Derived.Test.YtogciehmdlfkfaaGreatDoorHB
import Derived.OpenShut
import Derived.Test.YtogciehmdlfkfaaGreatDoorHA
import Derived.ChangeSlices
/- Part FrameD. -/

namespace Go.Proofs.YtogciehmdlfkfaaGreatDoor
open Go.RowKit Nd

theorem laid_tail {P : Program} {W : World} {x : String × DataW Unit} {l : List (String × DataW Unit)} (h : ∃ ps, DataW.LaidVars P W (x :: l) ps) : ∃ ps, DataW.LaidVars P W l ps := by
  obtain ⟨ps, g, t, cs, fuel, p, q, _, _, _, _, h1, _⟩ := h
  exact ⟨_, h1⟩
theorem cells_of_strs {H : Type} {enc : TypeId × Value → H} {P : Program} {w : World} {base : Nat} {sp : Nat → Bool} {held : Bool} {fuel : Nat} {t e : TypeId} {n : Nat} {cs : List Value} {L : List ByteArray} {p : List MemPlace}
    (ht : P.underlying t = some (.array n e)) (he : P.underlying e = some .string) (hce : P.cellsOf e = 1) (hct : P.cellsOf t = n)
    (h : DataW.trod enc P w base sp held fuel t cs = some (.agg (L.map fun s => .lit (.string s.data.toList)), p)) : cs = L.map Value.string := by
  obtain ⟨xs, m, _, ex, hlen, hl, hel⟩ := DataW.trod_array ht h
  rw [hce] at hel
  rw [hct] at hlen
  have hm : xs.map (·.1) = L.map fun s => (DataW.lit (.string s.data.toList) : DataW H) := (DataW.agg.inj (Prod.mk.inj ex).1).symm
  have hL : L.length = n := by
    have := congrArg List.length hm
    simp at this; omega
  apply List.ext_getElem?
  intro i
  by_cases hi : i < n
  · have hx : xs[i]? = some xs[i] := List.getElem?_eq_getElem (by omega)
    have h1 := hel i hi
    rw [hx] at h1
    obtain ⟨s, hc, e1, _⟩ := DataW.trod_string he h1
    have h2 : cs[i]? = some (.string s) := by
      have := congrArg (·[0]?) hc
      simpa [List.getElem?_take, List.getElem?_drop] using this
    have h3 : (xs.map (·.1))[i]? = some (DataW.lit (.string s.data.toList) : DataW H) := by rw [List.getElem?_map, hx, e1]; rfl
    rw [hm, List.getElem?_map] at h3
    obtain ⟨s2, hs2, e2⟩ := Option.map_eq_some_iff.1 h3
    have e3 : s2.data.toList = s.data.toList := by
      have := DataW.lit.inj e2
      exact Lit.string.inj this
    have e4 : s2 = s := ByteArray.ext (Array.toList_inj.1 e3)
    rw [h2, List.getElem?_map, hs2, e4]; rfl
  · rw [List.getElem?_eq_none (by omega), List.getElem?_eq_none (by simp; omega)]
theorem forms_data : (Rows.laid_insolvency_proof_forms : DataW Unit) = .agg (formsS.map fun s => .lit (.string s.data.toList)) := rfl
theorem pow_data : (Rows.laid_internal_strconv_uint64pow10 : DataW Unit) = Lib.tabData .u64 Lib.pow10Tab := by
  unfold Rows.laid_internal_strconv_uint64pow10 Lib.tabData
  congr 1
theorem gl_of {W : World} (h : laidMetH Tryz.prog laid W) : Gl W := by
  rw [MakeChecks.laidMetH_plain _ _ _ (by kernel_rfl)] at h
  obtain ⟨ps, h0, _, _⟩ := h
  have h0 : ∃ ps, DataW.LaidVars Tryz.prog W laid ps := ⟨ps, h0⟩
  have h1 := laid_tail h0
  have h2 := laid_tail h1
  have h6 := laid_tail (laid_tail (laid_tail (laid_tail h2)))
  refine ⟨?_, ?_, ?_⟩
  · obtain ⟨ps, g, t, cs, fuel, p, q, hg, ht, hv, hd, _, _⟩ := h2
    obtain rfl := Option.some.inj (gTab.symm.trans hg)
    obtain rfl := Option.some.inj ((show (Tryz.prog.globals[4]?).map (·.type) = some 182 by kernel_rfl).symm.trans ht)
    rw [pow_data] at hd
    have := Lib.cells_of_tab Tryz.underlying182 Tryz.underlying96 (show Tryz.prog.cellsOf 96 = 1 by kernel_rfl) (show Tryz.prog.cellsOf 182 = 20 by kernel_rfl) hd
    unfold Lib.TabIs
    rw [hv, ← this]
  · obtain ⟨ps, g, t, cs, fuel, p, q, hg, ht, hv, hd, _, _⟩ := h6
    obtain rfl := Option.some.inj (gFrm.symm.trans hg)
    obtain rfl := Option.some.inj ((show (Tryz.prog.globals[0]?).map (·.type) = some 111 by kernel_rfl).symm.trans ht)
    rw [forms_data] at hd
    have := cells_of_strs Tryz.underlying111 Tryz.underlying9 (show Tryz.prog.cellsOf 9 = 1 by kernel_rfl) (show Tryz.prog.cellsOf 111 = 8 by kernel_rfl) hd
    rw [hv, ← this]
  · obtain ⟨ps, g, t, cs, fuel, p, q, hg, ht, hv, hd, _, _⟩ := h1
    obtain rfl := Option.some.inj ((show Tryz.prog.globalNamed "math/bits.deBruijn64tab" = some 8 by kernel_rfl).symm.trans hg)
    unfold World.var? at hv
    simp only [hg, Option.bind_some] at hv
    rcases Nat.lt_or_ge 8 W.heap.size with h | h
    · omega
    · rw [Array.getElem?_eq_none h] at hv; cases hv
end Go.Proofs.YtogciehmdlfkfaaGreatDoor

/- Part FrameDD. -/

namespace Go.Proofs.YtogciehmdlfkfaaGreatDoor
open Go.RowKit Nd

theorem rngU16 {a : Int} (h : (Lit.int .u16 a).wf = true) : 0 ≤ a ∧ a ≤ 65535 := by simpa [Lit.wf, IntKind.min, IntKind.max, IntKind.signed, IntKind.bits] using h
theorem rngU8 {a : Int} (h : (Lit.int .u8 a).wf = true) : 0 ≤ a ∧ a ≤ 255 := by simpa [Lit.wf, IntKind.min, IntKind.max, IntKind.signed, IntKind.bits] using h
theorem cellsPf : Tryz.prog.cellsOf 27 = 14 := by kernel_rfl
theorem cellsPf_int : Tryz.prog.cellsOf 3 = 1 := by kernel_rfl
theorem cellsPf_string : Tryz.prog.cellsOf 9 = 1 := by kernel_rfl

section
variable {H : Type} {enc : TypeId × Value → H} {w : World} {base : Nat} {spare : Nat → Bool} {held : Bool}
set_option maxRecDepth 100000 in
/-- The cells of an element that lies in memory. -/
theorem pf_cells {fuel : Nat} {cs : List Value} {x : DataW H × List MemPlace} (h : DataW.trod enc Tryz.prog w base spare held fuel 27 cs = some x) :
    ∃ s : Pf, cs = [.string s.id, .int .i64 s.es, .int .i64 s.cr, .string s.cd, .bool s.am.neg, .string s.am.num, .string s.am.den, .int .i64 s.inc, .int .i64 s.rk, .bool s.rt.neg, .string s.rt.num, .string s.rt.den, .int .i64 s.rf, .int .i64 s.sec] := by
  obtain ⟨ys, n, rfl, hx, hl, hlen, hf⟩ := DataW.trod_struct Tryz.underlying27 h
  rw [cellsPf] at hl
  match cs, hl with
  | [c0, c1, c2, c3, c4, c5, c6, c7, c8, c9, c10, c11, c12, c13], _ =>
    match ys, hlen with
    | [y0, y1, y2, y3, y4, y5, y6, y7, y8, y9], _ =>
      have h0 : DataW.trod enc Tryz.prog w base spare held n 9 (([c0, c1, c2, c3, c4, c5, c6, c7, c8, c9, c10, c11, c12, c13].drop 0).take (Tryz.prog.cellsOf 9)) = some y0 := hf 0 _ rfl
      rw [cellsPf_string] at h0
      have g0 : DataW.trod enc Tryz.prog w base spare held n 9 [c0] = some y0 := h0
      have h1 : DataW.trod enc Tryz.prog w base spare held n 3 (([c0, c1, c2, c3, c4, c5, c6, c7, c8, c9, c10, c11, c12, c13].drop 1).take (Tryz.prog.cellsOf 3)) = some y1 := hf 1 _ rfl
      rw [cellsPf_int] at h1
      have g1 : DataW.trod enc Tryz.prog w base spare held n 3 [c1] = some y1 := h1
      have h2 : DataW.trod enc Tryz.prog w base spare held n 3 (([c0, c1, c2, c3, c4, c5, c6, c7, c8, c9, c10, c11, c12, c13].drop 2).take (Tryz.prog.cellsOf 3)) = some y2 := hf 2 _ rfl
      rw [cellsPf_int] at h2
      have g2 : DataW.trod enc Tryz.prog w base spare held n 3 [c2] = some y2 := h2
      have h3 : DataW.trod enc Tryz.prog w base spare held n 9 (([c0, c1, c2, c3, c4, c5, c6, c7, c8, c9, c10, c11, c12, c13].drop 3).take (Tryz.prog.cellsOf 9)) = some y3 := hf 3 _ rfl
      rw [cellsPf_string] at h3
      have g3 : DataW.trod enc Tryz.prog w base spare held n 9 [c3] = some y3 := h3
      have h4 : DataW.trod enc Tryz.prog w base spare held n 25 (([c0, c1, c2, c3, c4, c5, c6, c7, c8, c9, c10, c11, c12, c13].drop 4).take (Tryz.prog.cellsOf 25)) = some y4 := hf 4 _ rfl
      rw [cellsRat] at h4
      have g4 : DataW.trod enc Tryz.prog w base spare held n 25 [c4, c5, c6] = some y4 := h4
      have h5 : DataW.trod enc Tryz.prog w base spare held n 3 (([c0, c1, c2, c3, c4, c5, c6, c7, c8, c9, c10, c11, c12, c13].drop 7).take (Tryz.prog.cellsOf 3)) = some y5 := hf 5 _ rfl
      rw [cellsPf_int] at h5
      have g5 : DataW.trod enc Tryz.prog w base spare held n 3 [c7] = some y5 := h5
      have h6 : DataW.trod enc Tryz.prog w base spare held n 3 (([c0, c1, c2, c3, c4, c5, c6, c7, c8, c9, c10, c11, c12, c13].drop 8).take (Tryz.prog.cellsOf 3)) = some y6 := hf 6 _ rfl
      rw [cellsPf_int] at h6
      have g6 : DataW.trod enc Tryz.prog w base spare held n 3 [c8] = some y6 := h6
      have h7 : DataW.trod enc Tryz.prog w base spare held n 25 (([c0, c1, c2, c3, c4, c5, c6, c7, c8, c9, c10, c11, c12, c13].drop 9).take (Tryz.prog.cellsOf 25)) = some y7 := hf 7 _ rfl
      rw [cellsRat] at h7
      have g7 : DataW.trod enc Tryz.prog w base spare held n 25 [c9, c10, c11] = some y7 := h7
      have h8 : DataW.trod enc Tryz.prog w base spare held n 3 (([c0, c1, c2, c3, c4, c5, c6, c7, c8, c9, c10, c11, c12, c13].drop 12).take (Tryz.prog.cellsOf 3)) = some y8 := hf 8 _ rfl
      rw [cellsPf_int] at h8
      have g8 : DataW.trod enc Tryz.prog w base spare held n 3 [c12] = some y8 := h8
      have h9 : DataW.trod enc Tryz.prog w base spare held n 3 (([c0, c1, c2, c3, c4, c5, c6, c7, c8, c9, c10, c11, c12, c13].drop 13).take (Tryz.prog.cellsOf 3)) = some y9 := hf 9 _ rfl
      rw [cellsPf_int] at h9
      have g9 : DataW.trod enc Tryz.prog w base spare held n 3 [c13] = some y9 := h9
      obtain ⟨p0, e0, _, _⟩ := DataW.trod_string Tryz.underlying9 g0
      simp at e0
      subst e0
      obtain ⟨p1, e1, _, _⟩ := DataW.trod_int Tryz.underlying3 g1
      simp at e1
      subst e1
      obtain ⟨p2, e2, _, _⟩ := DataW.trod_int Tryz.underlying3 g2
      simp at e2
      subst e2
      obtain ⟨p3, e3, _, _⟩ := DataW.trod_string Tryz.underlying9 g3
      simp at e3
      subst e3
      obtain ⟨p4, e4, _, _⟩ := rat_cells g4
      simp at e4
      obtain ⟨rfl, rfl, rfl⟩ := e4
      obtain ⟨p5, e5, _, _⟩ := DataW.trod_int Tryz.underlying3 g5
      simp at e5
      subst e5
      obtain ⟨p6, e6, _, _⟩ := DataW.trod_int Tryz.underlying3 g6
      simp at e6
      subst e6
      obtain ⟨p7, e7, _, _⟩ := rat_cells g7
      simp at e7
      obtain ⟨rfl, rfl, rfl⟩ := e7
      obtain ⟨p8, e8, _, _⟩ := DataW.trod_int Tryz.underlying3 g8
      simp at e8
      subst e8
      obtain ⟨p9, e9, _, _⟩ := DataW.trod_int Tryz.underlying3 g9
      simp at e9
      subst e9
      exact ⟨⟨p0, p1, p2, p3, p4, p5, p6, p7, p8, p9⟩, rfl⟩
instance : Inhabited Pf := ⟨pf0⟩
theorem open_pfsF {fuel : Nat} {cs : List Value} {x : DataW H × List MemPlace} (h : DataW.trod enc Tryz.prog w base spare held fuel 29 cs = some x) :
    ∃ (A : Option Addr) (cap : Nat) (xs : List Pf), cs = [.slice A xs.length cap] ∧ xs.length ≤ cap ∧ cap ≤ 9223372036854775807 ∧ SPf w A xs := by
  rcases Go.Deep.open_slice underPf h with ⟨rfl, _⟩ | ⟨a, len, cap, m, n, D, Pl, rfl, _, hl, hm, hmm, _, hi⟩
  · exact ⟨none, 0, [], rfl, Nat.le_refl _, by omega, SPf.nil _ _⟩
  · have hlm : len ≤ m := by rw [hmm]; split <;> omega
    have each : ∀ i, i < len → ∃ s : Pf, w.cell? (a.add (i * 14)) = some (.string s.id) ∧ w.cell? (a.add (i * 14 + 1)) = some (.int .i64 s.es) ∧ w.cell? (a.add (i * 14 + 2)) = some (.int .i64 s.cr) ∧ w.cell? (a.add (i * 14 + 3)) = some (.string s.cd) ∧ w.cell? (a.add (i * 14 + 4)) = some (.bool s.am.neg) ∧ w.cell? (a.add (i * 14 + 5)) = some (.string s.am.num) ∧ w.cell? (a.add (i * 14 + 6)) = some (.string s.am.den) ∧ w.cell? (a.add (i * 14 + 7)) = some (.int .i64 s.inc) ∧ w.cell? (a.add (i * 14 + 8)) = some (.int .i64 s.rk) ∧ w.cell? (a.add (i * 14 + 9)) = some (.bool s.rt.neg) ∧ w.cell? (a.add (i * 14 + 10)) = some (.string s.rt.num) ∧ w.cell? (a.add (i * 14 + 11)) = some (.string s.rt.den) ∧ w.cell? (a.add (i * 14 + 12)) = some (.int .i64 s.rf) ∧ w.cell? (a.add (i * 14 + 13)) = some (.int .i64 s.sec) := by
      intro i hil
      obtain ⟨cs', hc, ht⟩ := hi i (by omega)
      obtain ⟨s, rfl⟩ := pf_cells ht
      rw [cellsPf] at hc
      obtain ⟨_, _, hat⟩ := World.cells?_some hc
      refine ⟨s, ?_, ?_, ?_, ?_, ?_, ?_, ?_, ?_, ?_, ?_, ?_, ?_, ?_, ?_⟩
      · have := hat 0 (by omega); rw [Go.Deep.add_add] at this; simpa using this
      · have := hat 1 (by omega); rw [Go.Deep.add_add] at this; simpa using this
      · have := hat 2 (by omega); rw [Go.Deep.add_add] at this; simpa using this
      · have := hat 3 (by omega); rw [Go.Deep.add_add] at this; simpa using this
      · have := hat 4 (by omega); rw [Go.Deep.add_add] at this; simpa using this
      · have := hat 5 (by omega); rw [Go.Deep.add_add] at this; simpa using this
      · have := hat 6 (by omega); rw [Go.Deep.add_add] at this; simpa using this
      · have := hat 7 (by omega); rw [Go.Deep.add_add] at this; simpa using this
      · have := hat 8 (by omega); rw [Go.Deep.add_add] at this; simpa using this
      · have := hat 9 (by omega); rw [Go.Deep.add_add] at this; simpa using this
      · have := hat 10 (by omega); rw [Go.Deep.add_add] at this; simpa using this
      · have := hat 11 (by omega); rw [Go.Deep.add_add] at this; simpa using this
      · have := hat 12 (by omega); rw [Go.Deep.add_add] at this; simpa using this
      · have := hat 13 (by omega); rw [Go.Deep.add_add] at this; simpa using this
    obtain ⟨f, hf⟩ := Go.Deep.choose_lt each
    have hlen : ((List.range len).map f).length = len := by simp
    refine ⟨some a, cap, (List.range len).map f, by rw [hlen], by omega, by simpa [maxLen] using hm, ?_⟩
    intro hpos
    rw [hlen] at hpos
    obtain ⟨g, o, sp⟩ := a
    have hs : sp = none := by
      have := World.cell?_spot (hf 0 hpos).1
      rw [Nat.zero_mul] at this
      simpa [Addr.add] using this
    subst hs
    have hlt : g < w.heap.size := by
      have := World.block_lt_of_cell? w _ (hf 0 hpos).1
      rw [Nat.zero_mul] at this
      simpa [Addr.add] using this
    refine ⟨g, o, rfl, hlt, fun j hj => ?_⟩
    rw [hlen] at hj
    have hg : ((List.range len).map f).getD j pf0 = f j := by simp [List.getD_eq_getElem?_getD, hj]
    rw [hg]
    obtain ⟨e0, e1, e2, e3, e4, e5, e6, e7, e8, e9, e10, e11, e12, e13⟩ := hf j hj
    rw [add_atPf] at e0 e1 e2 e3 e4 e5 e6 e7 e8 e9 e10 e11 e12 e13
    exact ⟨e0, e1, e2, e3, e4, e5, e6, e7, e8, e9, e10, e11, e12, e13, hlt⟩
set_option maxRecDepth 100000 in
/-- A list as an argument. -/
theorem open_pfs {r : Reach} {b0 : Nat} {v : Value} {d : DataW H} {p : List MemPlace} (hv : Value.okWide Tryz.prog w r b0 29 v) (h : DataW.Trod enc Tryz.prog w base spare held 29 v d p) :
    ∃ (A : Option Addr) (cap : Nat) (xs : List Pf), v = .slice A xs.length cap ∧ xs.length ≤ cap ∧ cap ≤ 9223372036854775807 ∧ SPf w A xs := by
  obtain ⟨A, n, c, rfl⟩ := Go.WideShapes.okWide_slice underPf hv
  obtain ⟨fuel, hf⟩ := h
  obtain ⟨B, cap, xs, e, h1, h2, h3⟩ := open_pfsF hf
  simp [Value.cells] at e
  obtain ⟨rfl, rfl, rfl⟩ := e
  exact ⟨_, _, xs, rfl, h1, h2, h3⟩
set_option maxRecDepth 100000 in
/-- A document as an argument. -/
theorem open_pf {r : Reach} {b0 : Nat} {v : Value} {d : DataW H} {p : List MemPlace} (hv : Value.okWide Tryz.prog w r b0 27 v) (h : DataW.Trod enc Tryz.prog w base spare held 27 v d p) :
    ∃ s : Pf, v = s.val := by
  obtain ⟨cs, rfl, hsz⟩ := Go.WideShapes.okWide_struct Tryz.underlying27 hv
  obtain ⟨fuel, hf⟩ := h
  obtain ⟨s, e⟩ := pf_cells hf
  refine ⟨s, ?_⟩
  have e2 : cs.toList = _ := e
  have e3 : cs = (cs.toList).toArray := by simp
  rw [e3, e2]
end
end Go.Proofs.YtogciehmdlfkfaaGreatDoor
