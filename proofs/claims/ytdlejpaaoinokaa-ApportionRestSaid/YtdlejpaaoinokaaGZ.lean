/-
  Several parts put together: Frame, Frame2, Frame3.
-/
import Derived.Test.YtdlejpaaoinokaaGF
import Derived.Test.YtdlejpaaoinokaaRows
import Derived.ProofKit
import Derived.ShutString
import Derived.PinnedBridge
import Derived.Lay
import Derived.LaidOnce
import Derived.SevenTiedAt
import Derived.Test.YtdlejpaaoinokaaGM
import Derived.Lib.SmallJoins
import Derived.Test.YtdlejpaaoinokaaRL
import Derived.Deep.Slices
import Derived.ReadAgain
/- Part Frame. -/

namespace Go.Proofs.Ytdlejpaaoinokaa
open Go.RowKit Nd

theorem own : ownKnob Try.prog.godebug = none := by kernel_rfl
def laid : List (String × DataW Unit) := Rows.apportionLargestRow.laid
set_option maxRecDepth 100000 in
theorem wit_shaped (os : Os) (args : Array Value) : ((World.laidAll Try.prog os laid).forCall (fun _ _ => 0) ⟨#[], args, []⟩).Shaped Try.prog :=
  World.shaped_of_ZipB (by kernel_rfl) (by kernel_rfl)
set_option maxRecDepth 100000 in
theorem wit_laid (os : Os) (args : Array Value) : laidMetH Try.prog laid ((World.laidAll Try.prog os laid).forCall (fun _ _ => 0) ⟨#[], args, []⟩).memory := by
  rw [MakeChecks.laidMetH_plain _ _ _ (by kernel_rfl)]; exact laidMet_laidAll _ (by kernel_rfl) (by kernel_rfl)
theorem looks_nil : false = Try.prog.looks [] := by kernel_rfl
theorem no_stand_in : ([9, 5].all fun u => !Try.prog.wantsStandIn u) = true := by kernel_rfl

end Go.Proofs.Ytdlejpaaoinokaa

/- Part Frame2. -/

namespace Go.Proofs.Ytdlejpaaoinokaa
open Go.RowKit Nd

theorem cellsRat : Try.prog.cellsOf 38 = 3 := by kernel_rfl

set_option maxRecDepth 100000 in
theorem open_rat {H : Type} {enc : TypeId × Value → H} {w : World} {base : Nat} {spare : Nat → Bool} {held : Bool} {r : Reach} {b0 : Nat} {v : Value} {d : DataW H} {p : List MemPlace}
    (hv : Value.okWide Try.prog w r b0 38 v) (h : DataW.Trod enc Try.prog w base spare held 38 v d p) :
    ∃ x : Q3, v = .agg #[.bool x.neg, .string x.num, .string x.den] ∧ d = .agg [.lit (.bool x.neg), .lit (.string x.num.data.toList), .lit (.string x.den.data.toList)] ∧ p = [] ∧ x.num.size ≤ maxLen ∧ x.den.size ≤ maxLen := by
  obtain ⟨c0, c1, c2, y0, y1, y2, m, rfl, rfl, rfl, hy0, hy1, hy2⟩ := Go.Joins.open_agg3 Try.underlying38 (by kernel_rfl) cellsRat hv h
  obtain ⟨b, e0, rfl⟩ := DataW.trod_bool Try.underlying4 hy0
  obtain ⟨s, e1, rfl, ws⟩ := DataW.trod_string Try.underlying9 hy1
  obtain ⟨t, e2, rfl, wt⟩ := DataW.trod_string Try.underlying9 hy2
  simp at e0 e1 e2
  subst e0 e1 e2
  exact ⟨⟨b, s, t⟩, rfl, rfl, rfl, ws, wt⟩

set_option maxRecDepth 100000 in
theorem shut_rat {H : Type} {enc : TypeId × Value → H} {w : World} {base : Nat} {spare : Nat → Bool} {held : Bool} (x : Q3) (ws : x.num.size ≤ maxLen) (wt : x.den.size ≤ maxLen) :
    DataW.Trod enc Try.prog w base spare held 38 (.agg #[.bool x.neg, .string x.num, .string x.den]) (.agg [.lit (.bool x.neg), .lit (.string x.num.data.toList), .lit (.string x.den.data.toList)]) [] := by
  simpa using Go.Joins.shut_agg3 (enc := enc) (w := w) (base := base) (spare := spare) (held := held) (y0 := (.lit (.bool x.neg), [])) (y1 := (.lit (.string x.num.data.toList), [])) (y2 := (.lit (.string x.den.data.toList), [])) Try.underlying38 (by kernel_rfl) cellsRat
    ⟨1, by simp [DataW.trod, Try.underlying4]⟩ ⟨1, by simp [DataW.trod, Try.underlying9]; exact ws⟩ ⟨1, by simp [DataW.trod, Try.underlying9]; exact wt⟩

end Go.Proofs.Ytdlejpaaoinokaa

/- Part Frame3. -/

namespace Go.Proofs.Ytdlejpaaoinokaa
open Go.RowKit Nd

theorem Try.kids : Kids Try.prog (· < Try.prog.types.size) := kids_rows (by kernel_rfl) (by kernel_rfl)
theorem Try.full : ∀ t e, t < Try.prog.types.size → Try.prog.underlying t = some (.slice e) → 0 < Try.prog.cellsOf e := slices_full_of Try.prog (by kernel_rfl)
theorem cellsBool : Try.prog.cellsOf 4 = 1 := by kernel_rfl
theorem cellsString : Try.prog.cellsOf 9 = 1 := by kernel_rfl
theorem cellsRats : Try.prog.cellsOf 22 = 1 := by kernel_rfl

section
variable {H : Type} {enc : TypeId × Value → H} {w w' : World} {base : Nat} {spare : Nat → Bool} {held : Bool}

theorem trod_carry_all {P : Program} : ∀ {ts : List TypeId} {vs : List Value} {ds : List (DataW H)} {ps : List MemPlace},
    DataW.TrodAll enc P w base spare held ts vs ds ps → (∀ p ∈ ps, w.sameAt w' p) → DataW.TrodAll enc P w' base spare held ts vs ds ps
  | [], [], [], _, h, _ => h
  | _ :: _, _ :: _, _ :: _, _, ⟨p, q, ⟨n, h1⟩, h2, e⟩, hs =>
    ⟨p, q, ⟨n, DataW.trod_carry n _ _ _ h1 (fun x hx => hs x (by rw [e]; exact List.mem_append_left _ hx))⟩, trod_carry_all h2 (fun x hx => hs x (by rw [e]; exact List.mem_append_right _ hx)), e⟩

/-- Arguments that the call has left as they were read again behind it. -/
theorem args_again {ts : List TypeId} {vs : List Value} {ds : List (DataW H)} {ps : List MemPlace} (hT : ∀ t ∈ ts, t < Try.prog.types.size)
    (h : DataW.TrodAll enc Try.prog w 0 (fun _ => true) true ts vs ds ps) (hb : Below w.heap.size w w') :
    DataW.TrodAll enc Try.prog w' 0 (fun b => decide (b < w.heap.size)) true ts vs ds ps :=
  (trod_carry_all h (fun _ hp => hb.same (h.lt _ hp))).respare Try.kids Try.full hT (fun p hp => by simpa using h.lt p hp)

set_option maxRecDepth 100000 in
/-- The cells of a number that lies in memory. -/
theorem rat_cells {fuel : Nat} {cs : List Value} {x : DataW H × List MemPlace} (h : DataW.trod enc Try.prog w base spare held fuel 38 cs = some x) :
    ∃ q : Q3, cs = [.bool q.neg, .string q.num, .string q.den] ∧ q.num.size ≤ maxLen ∧ q.den.size ≤ maxLen := by
  obtain ⟨ys, n, rfl, hx, hl, hlen, hf⟩ := DataW.trod_struct Try.underlying38 h
  rw [cellsRat] at hl
  match cs, hl with
  | [c0, c1, c2], _ =>
    match ys, hlen with
    | [y0, y1, y2], _ =>
      have h0 : DataW.trod enc Try.prog w base spare held n 4 (([c0, c1, c2].drop 0).take (Try.prog.cellsOf 4)) = some y0 := hf 0 _ rfl
      have h1 : DataW.trod enc Try.prog w base spare held n 9 (([c0, c1, c2].drop 1).take (Try.prog.cellsOf 9)) = some y1 := hf 1 _ rfl
      have h2 : DataW.trod enc Try.prog w base spare held n 9 (([c0, c1, c2].drop 2).take (Try.prog.cellsOf 9)) = some y2 := hf 2 _ rfl
      rw [cellsBool] at h0
      rw [cellsString] at h1 h2
      have g0 : DataW.trod enc Try.prog w base spare held n 4 [c0] = some y0 := h0
      have g1 : DataW.trod enc Try.prog w base spare held n 9 [c1] = some y1 := h1
      have g2 : DataW.trod enc Try.prog w base spare held n 9 [c2] = some y2 := h2
      obtain ⟨b, e0, _⟩ := DataW.trod_bool Try.underlying4 g0
      obtain ⟨s, e1, _, ws⟩ := DataW.trod_string Try.underlying9 g1
      obtain ⟨t, e2, _, wt⟩ := DataW.trod_string Try.underlying9 g2
      simp at e0 e1 e2
      subst e0 e1 e2
      exact ⟨⟨b, s, t⟩, rfl, ws, wt⟩

instance : Inhabited Q3 := ⟨q0⟩
theorem add_lit (g o n : Nat) : (⟨g, o, none⟩ : Addr).add n = ⟨g, o + n, none⟩ := by
  unfold Addr.add; split
  · subst n; rfl
  · rfl
/-- A list of numbers, opened. -/
theorem open_rats {fuel : Nat} {cs : List Value} {x : DataW H × List MemPlace} (h : DataW.trod enc Try.prog w base spare held fuel 22 cs = some x) :
    ∃ (A : Option Addr) (cap : Nat) (xs : List Q3), cs = [.slice A xs.length cap] ∧ xs.length ≤ cap ∧ cap ≤ 9223372036854775807 ∧ Rds w A xs := by
  rcases Go.Deep.open_slice Try.under3 h with ⟨rfl, _⟩ | ⟨a, len, cap, m, n, D, Pl, rfl, _, hl, hm, hmm, _, hi⟩
  · exact ⟨none, 0, [], rfl, Nat.le_refl _, by omega, Rds.nil _ _⟩
  · have hlm : len ≤ m := by rw [hmm]; split <;> omega
    have each : ∀ i, i < len → ∃ q : Q3, w.cell? (a.add (i * 3)) = some (.bool q.neg) ∧ w.cell? (a.add (i * 3 + 1)) = some (.string q.num) ∧ w.cell? (a.add (i * 3 + 2)) = some (.string q.den) := by
      intro i hil
      obtain ⟨cs', hc, ht⟩ := hi i (by omega)
      obtain ⟨q, rfl, _, _⟩ := rat_cells ht
      rw [cellsRat] at hc
      obtain ⟨_, _, hat⟩ := World.cells?_some hc
      refine ⟨q, ?_, ?_, ?_⟩
      · have := hat 0 (by omega); rw [Go.Deep.add_add] at this; simpa using this
      · have := hat 1 (by omega); rw [Go.Deep.add_add] at this; simpa using this
      · have := hat 2 (by omega); rw [Go.Deep.add_add] at this; simpa using this
    obtain ⟨f, hf⟩ := Go.Deep.choose_lt each
    have hlen : ((List.range len).map f).length = len := by simp
    refine ⟨some a, cap, (List.range len).map f, by rw [hlen], by omega, by simpa [maxLen] using hm, ?_⟩
    intro hpos
    rw [hlen] at hpos
    obtain ⟨g, o, sp⟩ := a
    have hs : sp = none := by
      have := World.cell?_spot (hf 0 hpos).1
      rw [Nat.zero_mul] at this
      simpa [Addr.add] using this
    subst hs
    have hlt : g < w.heap.size := by
      have := World.block_lt_of_cell? w _ (hf 0 hpos).1
      rw [Nat.zero_mul] at this
      simpa [Addr.add] using this
    refine ⟨g, o, rfl, hlt, fun j hj => ?_⟩
    rw [hlen] at hj
    have hg : ((List.range len).map f).getD j q0 = f j := by simp [List.getD_eq_getElem?_getD, hj]
    rw [hg]
    obtain ⟨e0, e1, e2⟩ := hf j hj
    rw [add_lit] at e0 e1 e2
    exact ⟨e0, e1, e2⟩
set_option maxRecDepth 100000 in
/-- A list of numbers as an argument. -/
theorem open_list {r : Reach} {b0 : Nat} {v : Value} {d : DataW H} {p : List MemPlace} (hv : Value.okWide Try.prog w r b0 22 v) (h : DataW.Trod enc Try.prog w base spare held 22 v d p) :
    ∃ (A : Option Addr) (cap : Nat) (xs : List Q3), v = .slice A xs.length cap ∧ xs.length ≤ cap ∧ cap ≤ 9223372036854775807 ∧ Rds w A xs := by
  obtain ⟨A, n, c, rfl⟩ := Go.WideShapes.okWide_slice Try.under3 hv
  obtain ⟨fuel, hf⟩ := h
  obtain ⟨B, cap, xs, e, h1, h2, h3⟩ := open_rats hf
  simp [Value.cells] at e
  obtain ⟨rfl, rfl, rfl⟩ := e
  exact ⟨_, _, xs, rfl, h1, h2, h3⟩
end

end Go.Proofs.Ytdlejpaaoinokaa
