/-
  Several parts put together: Frame, Frame2, Frame3.
-/
import Derived.Test.YtgdpcpbmjgaliaaGF
import Derived.Test.YtgdpcpbmjgaliaaRows
import Derived.ProofKit
import Derived.ShutString
import Derived.PinnedBridge
import Derived.Lay
import Derived.LaidOnce
import Derived.SevenTiedAt
import Derived.Test.YtgdpcpbmjgaliaaGM
import Derived.Lib.SmallJoins
import Derived.Test.YtgdpcpbmjgaliaaRL
import Derived.Deep.Slices
import Derived.ReadAgain
/- Part Frame. -/

namespace Go.Proofs.Ytgdpcpbmjgaliaa
open Go.RowKit Nd

theorem own : ownKnob Try.prog.godebug = none := by kernel_rfl
def laid : List (String × DataW Unit) := Rows.partyCheckRow.laid
set_option maxRecDepth 100000 in
theorem wit_shaped (os : Os) (args : Array Value) : ((World.laidAll Try.prog os laid).forCall (fun _ _ => 0) ⟨#[], args, []⟩).Shaped Try.prog :=
  World.shaped_of_ZipB (by kernel_rfl) (by kernel_rfl)
set_option maxRecDepth 100000 in
theorem wit_laid (os : Os) (args : Array Value) : laidMetH Try.prog laid ((World.laidAll Try.prog os laid).forCall (fun _ _ => 0) ⟨#[], args, []⟩).memory := by
  rw [MakeChecks.laidMetH_plain _ _ _ (by kernel_rfl)]; exact laidMet_laidAll _ (by kernel_rfl) (by kernel_rfl)
theorem looks_nil : false = Try.prog.looks [] := by kernel_rfl
theorem no_stand_in : ([9, 5].all fun u => !Try.prog.wantsStandIn u) = true := by kernel_rfl

end Go.Proofs.Ytgdpcpbmjgaliaa

/- Part Frame2. -/

namespace Go.Proofs.Ytgdpcpbmjgaliaa
open Go.RowKit Nd

theorem cellsRat : Try.prog.cellsOf 33 = 3 := by kernel_rfl

set_option maxRecDepth 100000 in
theorem open_rat {H : Type} {enc : TypeId × Value → H} {w : World} {base : Nat} {spare : Nat → Bool} {held : Bool} {r : Reach} {b0 : Nat} {v : Value} {d : DataW H} {p : List MemPlace}
    (hv : Value.okWide Try.prog w r b0 33 v) (h : DataW.Trod enc Try.prog w base spare held 33 v d p) :
    ∃ x : Q3, v = .agg #[.bool x.neg, .string x.num, .string x.den] ∧ d = .agg [.lit (.bool x.neg), .lit (.string x.num.data.toList), .lit (.string x.den.data.toList)] ∧ p = [] ∧ x.num.size ≤ maxLen ∧ x.den.size ≤ maxLen := by
  obtain ⟨c0, c1, c2, y0, y1, y2, m, rfl, rfl, rfl, hy0, hy1, hy2⟩ := Go.Joins.open_agg3 Try.underlying33 (by kernel_rfl) cellsRat hv h
  obtain ⟨b, e0, rfl⟩ := DataW.trod_bool Try.underlying4 hy0
  obtain ⟨s, e1, rfl, ws⟩ := DataW.trod_string Try.underlying9 hy1
  obtain ⟨t, e2, rfl, wt⟩ := DataW.trod_string Try.underlying9 hy2
  simp at e0 e1 e2
  subst e0 e1 e2
  exact ⟨⟨b, s, t⟩, rfl, rfl, rfl, ws, wt⟩

set_option maxRecDepth 100000 in
theorem shut_rat {H : Type} {enc : TypeId × Value → H} {w : World} {base : Nat} {spare : Nat → Bool} {held : Bool} (x : Q3) (ws : x.num.size ≤ maxLen) (wt : x.den.size ≤ maxLen) :
    DataW.Trod enc Try.prog w base spare held 33 (.agg #[.bool x.neg, .string x.num, .string x.den]) (.agg [.lit (.bool x.neg), .lit (.string x.num.data.toList), .lit (.string x.den.data.toList)]) [] := by
  simpa using Go.Joins.shut_agg3 (enc := enc) (w := w) (base := base) (spare := spare) (held := held) (y0 := (.lit (.bool x.neg), [])) (y1 := (.lit (.string x.num.data.toList), [])) (y2 := (.lit (.string x.den.data.toList), [])) Try.underlying33 (by kernel_rfl) cellsRat
    ⟨1, by simp [DataW.trod, Try.underlying4]⟩ ⟨1, by simp [DataW.trod, Try.underlying9]; exact ws⟩ ⟨1, by simp [DataW.trod, Try.underlying9]; exact wt⟩

end Go.Proofs.Ytgdpcpbmjgaliaa

/- Part Frame3. -/

namespace Go.Proofs.Ytgdpcpbmjgaliaa
open Go.RowKit Nd

theorem Try.kids : Kids Try.prog (· < Try.prog.types.size) := kids_rows (by kernel_rfl) (by kernel_rfl)
theorem Try.full : ∀ t e, t < Try.prog.types.size → Try.prog.underlying t = some (.slice e) → 0 < Try.prog.cellsOf e := slices_full_of Try.prog (by kernel_rfl)
theorem cellsBool : Try.prog.cellsOf 4 = 1 := by kernel_rfl
theorem cellsString : Try.prog.cellsOf 9 = 1 := by kernel_rfl
section
variable {H : Type} {enc : TypeId × Value → H} {w w' : World} {base : Nat} {spare : Nat → Bool} {held : Bool}

theorem trod_carry_all {P : Program} : ∀ {ts : List TypeId} {vs : List Value} {ds : List (DataW H)} {ps : List MemPlace},
    DataW.TrodAll enc P w base spare held ts vs ds ps → (∀ p ∈ ps, w.sameAt w' p) → DataW.TrodAll enc P w' base spare held ts vs ds ps
  | [], [], [], _, h, _ => h
  | _ :: _, _ :: _, _ :: _, _, ⟨p, q, ⟨n, h1⟩, h2, e⟩, hs =>
    ⟨p, q, ⟨n, DataW.trod_carry n _ _ _ h1 (fun x hx => hs x (by rw [e]; exact List.mem_append_left _ hx))⟩, trod_carry_all h2 (fun x hx => hs x (by rw [e]; exact List.mem_append_right _ hx)), e⟩

/-- Arguments that the call has left as they were read again behind it. -/
theorem args_again {ts : List TypeId} {vs : List Value} {ds : List (DataW H)} {ps : List MemPlace} (hT : ∀ t ∈ ts, t < Try.prog.types.size)
    (h : DataW.TrodAll enc Try.prog w 0 (fun _ => true) true ts vs ds ps) (hb : Below w.heap.size w w') :
    DataW.TrodAll enc Try.prog w' 0 (fun b => decide (b < w.heap.size)) true ts vs ds ps :=
  (trod_carry_all h (fun _ hp => hb.same (h.lt _ hp))).respare Try.kids Try.full hT (fun p hp => by simpa using h.lt p hp)

set_option maxRecDepth 100000 in
/-- The cells of a number that lies in memory. -/
theorem rat_cells {fuel : Nat} {cs : List Value} {x : DataW H × List MemPlace} (h : DataW.trod enc Try.prog w base spare held fuel 33 cs = some x) :
    ∃ q : Q3, cs = [.bool q.neg, .string q.num, .string q.den] ∧ q.num.size ≤ maxLen ∧ q.den.size ≤ maxLen := by
  obtain ⟨ys, n, rfl, hx, hl, hlen, hf⟩ := DataW.trod_struct Try.underlying33 h
  rw [cellsRat] at hl
  match cs, hl with
  | [c0, c1, c2], _ =>
    match ys, hlen with
    | [y0, y1, y2], _ =>
      have h0 : DataW.trod enc Try.prog w base spare held n 4 (([c0, c1, c2].drop 0).take (Try.prog.cellsOf 4)) = some y0 := hf 0 _ rfl
      have h1 : DataW.trod enc Try.prog w base spare held n 9 (([c0, c1, c2].drop 1).take (Try.prog.cellsOf 9)) = some y1 := hf 1 _ rfl
      have h2 : DataW.trod enc Try.prog w base spare held n 9 (([c0, c1, c2].drop 2).take (Try.prog.cellsOf 9)) = some y2 := hf 2 _ rfl
      rw [cellsBool] at h0
      rw [cellsString] at h1 h2
      have g0 : DataW.trod enc Try.prog w base spare held n 4 [c0] = some y0 := h0
      have g1 : DataW.trod enc Try.prog w base spare held n 9 [c1] = some y1 := h1
      have g2 : DataW.trod enc Try.prog w base spare held n 9 [c2] = some y2 := h2
      obtain ⟨b, e0, _⟩ := DataW.trod_bool Try.underlying4 g0
      obtain ⟨s, e1, _, ws⟩ := DataW.trod_string Try.underlying9 g1
      obtain ⟨t, e2, _, wt⟩ := DataW.trod_string Try.underlying9 g2
      simp at e0 e1 e2
      subst e0 e1 e2
      exact ⟨⟨b, s, t⟩, rfl, ws, wt⟩

instance : Inhabited Q3 := ⟨q0⟩
theorem add_lit (g o n : Nat) : (⟨g, o, none⟩ : Addr).add n = ⟨g, o + n, none⟩ := by
  unfold Addr.add; split
  · subst n; rfl
  · rfl
end

end Go.Proofs.Ytgdpcpbmjgaliaa
