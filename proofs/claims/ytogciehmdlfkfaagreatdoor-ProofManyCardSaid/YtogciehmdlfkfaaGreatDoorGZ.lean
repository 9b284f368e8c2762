/-
  Several parts put together: Frame, Frame2, Frame3.
-/
import Derived.Test.YtogciehmdlfkfaaGreatDoorGF
import Derived.Test.YtogciehmdlfkfaaGreatDoorRows
import Derived.Test.YtogciehmdlfkfaaGreatDoorTie
import Derived.Test.YtogciehmdlfkfaaGreatDoorCards
import Derived.ProofKit
import Derived.ShutString
import Derived.PinnedBridge
import Derived.Lay
import Derived.LaidOnce
import Derived.SevenTiedAt
import Derived.Test.YtogciehmdlfkfaaGreatDoorGM
import Derived.Lib.SmallJoins
import Derived.Test.YtogciehmdlfkfaaGreatDoorRL
import Derived.Deep.Slices
import Derived.ReadAgain
/- Part Frame. -/

namespace Go.Proofs.YtogciehmdlfkfaaGreatDoor
open Go.RowKit Nd

theorem own : ownKnob Tryz.prog.godebug = none := by kernel_rfl
def laid : List (String × DataW Unit) := Rows.proofNameRow.laid
set_option maxRecDepth 100000 in
theorem wit_shaped (os : Os) (args : Array Value) : ((World.laidAll Tryz.prog os laid).forCall (fun _ _ => 0) ⟨#[], args, []⟩).Shaped Tryz.prog :=
  World.shaped_of_ZipB (by kernel_rfl) (by kernel_rfl)
set_option maxRecDepth 100000 in
theorem wit_laid (os : Os) (args : Array Value) : laidMetH Tryz.prog laid ((World.laidAll Tryz.prog os laid).forCall (fun _ _ => 0) ⟨#[], args, []⟩).memory := by
  rw [MakeChecks.laidMetH_plain _ _ _ (by kernel_rfl)]; exact laidMet_laidAll _ (by kernel_rfl) (by kernel_rfl)
theorem main_is : Tryz.prog.mainIs = some (true, "11dd2bcc244481e68aed2b16c9ac3d32a301051c22da4a875b9e0c1725940b44".toList) := by kernel_rfl
theorem no_stand_in : ([9, 5].all fun u => !Tryz.prog.wantsStandIn u) = true := by kernel_rfl

end Go.Proofs.YtogciehmdlfkfaaGreatDoor

/- Part Frame2. -/

namespace Go.Proofs.YtogciehmdlfkfaaGreatDoor
open Go.RowKit Nd

theorem cellsRat : Tryz.prog.cellsOf 25 = 3 := by kernel_rfl

set_option maxRecDepth 100000 in
theorem open_rat {H : Type} {enc : TypeId × Value → H} {w : World} {base : Nat} {spare : Nat → Bool} {held : Bool} {r : Reach} {b0 : Nat} {v : Value} {d : DataW H} {p : List MemPlace}
    (hv : Value.okWide Tryz.prog w r b0 25 v) (h : DataW.Trod enc Tryz.prog w base spare held 25 v d p) :
    ∃ x : Q3, v = .agg #[.bool x.neg, .string x.num, .string x.den] ∧ d = .agg [.lit (.bool x.neg), .lit (.string x.num.data.toList), .lit (.string x.den.data.toList)] ∧ p = [] ∧ x.num.size ≤ maxLen ∧ x.den.size ≤ maxLen := by
  obtain ⟨c0, c1, c2, y0, y1, y2, m, rfl, rfl, rfl, hy0, hy1, hy2⟩ := Go.Joins.open_agg3 Tryz.underlying25 (by kernel_rfl) cellsRat hv h
  obtain ⟨b, e0, rfl⟩ := DataW.trod_bool Tryz.underlying4 hy0
  obtain ⟨s, e1, rfl, ws⟩ := DataW.trod_string Tryz.underlying9 hy1
  obtain ⟨t, e2, rfl, wt⟩ := DataW.trod_string Tryz.underlying9 hy2
  simp at e0 e1 e2
  subst e0 e1 e2
  exact ⟨⟨b, s, t⟩, rfl, rfl, rfl, ws, wt⟩

set_option maxRecDepth 100000 in
theorem shut_rat {H : Type} {enc : TypeId × Value → H} {w : World} {base : Nat} {spare : Nat → Bool} {held : Bool} (x : Q3) (ws : x.num.size ≤ maxLen) (wt : x.den.size ≤ maxLen) :
    DataW.Trod enc Tryz.prog w base spare held 25 (.agg #[.bool x.neg, .string x.num, .string x.den]) (.agg [.lit (.bool x.neg), .lit (.string x.num.data.toList), .lit (.string x.den.data.toList)]) [] := by
  simpa using Go.Joins.shut_agg3 (enc := enc) (w := w) (base := base) (spare := spare) (held := held) (y0 := (.lit (.bool x.neg), [])) (y1 := (.lit (.string x.num.data.toList), [])) (y2 := (.lit (.string x.den.data.toList), [])) Tryz.underlying25 (by kernel_rfl) cellsRat
    ⟨1, by simp [DataW.trod, Tryz.underlying4]⟩ ⟨1, by simp [DataW.trod, Tryz.underlying9]; exact ws⟩ ⟨1, by simp [DataW.trod, Tryz.underlying9]; exact wt⟩

end Go.Proofs.YtogciehmdlfkfaaGreatDoor

/- Part Frame3. -/

namespace Go.Proofs.YtogciehmdlfkfaaGreatDoor
open Go.RowKit Nd

theorem Tryz.kids : Kids Tryz.prog (· < Tryz.prog.types.size) := kids_rows (by kernel_rfl) (by kernel_rfl)
theorem Tryz.full : ∀ t e, t < Tryz.prog.types.size → Tryz.prog.underlying t = some (.slice e) → 0 < Tryz.prog.cellsOf e := slices_full_of Tryz.prog (by kernel_rfl)
theorem cellsBool : Tryz.prog.cellsOf 4 = 1 := by kernel_rfl
theorem cellsString : Tryz.prog.cellsOf 9 = 1 := by kernel_rfl
section
variable {H : Type} {enc : TypeId × Value → H} {w w' : World} {base : Nat} {spare : Nat → Bool} {held : Bool}

theorem trod_carry_all {P : Program} : ∀ {ts : List TypeId} {vs : List Value} {ds : List (DataW H)} {ps : List MemPlace},
    DataW.TrodAll enc P w base spare held ts vs ds ps → (∀ p ∈ ps, w.sameAt w' p) → DataW.TrodAll enc P w' base spare held ts vs ds ps
  | [], [], [], _, h, _ => h
  | _ :: _, _ :: _, _ :: _, _, ⟨p, q, ⟨n, h1⟩, h2, e⟩, hs =>
    ⟨p, q, ⟨n, DataW.trod_carry n _ _ _ h1 (fun x hx => hs x (by rw [e]; exact List.mem_append_left _ hx))⟩, trod_carry_all h2 (fun x hx => hs x (by rw [e]; exact List.mem_append_right _ hx)), e⟩

/-- Arguments that the call has left as they were read again behind it. -/
theorem args_again {ts : List TypeId} {vs : List Value} {ds : List (DataW H)} {ps : List MemPlace} (hT : ∀ t ∈ ts, t < Tryz.prog.types.size)
    (h : DataW.TrodAll enc Tryz.prog w 0 (fun _ => true) true ts vs ds ps) (hb : Below w.heap.size w w') :
    DataW.TrodAll enc Tryz.prog w' 0 (fun b => decide (b < w.heap.size)) true ts vs ds ps :=
  (trod_carry_all h (fun _ hp => hb.same (h.lt _ hp))).respare Tryz.kids Tryz.full hT (fun p hp => by simpa using h.lt p hp)

set_option maxRecDepth 100000 in
/-- The cells of a number that lies in memory. -/
theorem rat_cells {fuel : Nat} {cs : List Value} {x : DataW H × List MemPlace} (h : DataW.trod enc Tryz.prog w base spare held fuel 25 cs = some x) :
    ∃ q : Q3, cs = [.bool q.neg, .string q.num, .string q.den] ∧ q.num.size ≤ maxLen ∧ q.den.size ≤ maxLen := by
  obtain ⟨ys, n, rfl, hx, hl, hlen, hf⟩ := DataW.trod_struct Tryz.underlying25 h
  rw [cellsRat] at hl
  match cs, hl with
  | [c0, c1, c2], _ =>
    match ys, hlen with
    | [y0, y1, y2], _ =>
      have h0 : DataW.trod enc Tryz.prog w base spare held n 4 (([c0, c1, c2].drop 0).take (Tryz.prog.cellsOf 4)) = some y0 := hf 0 _ rfl
      have h1 : DataW.trod enc Tryz.prog w base spare held n 9 (([c0, c1, c2].drop 1).take (Tryz.prog.cellsOf 9)) = some y1 := hf 1 _ rfl
      have h2 : DataW.trod enc Tryz.prog w base spare held n 9 (([c0, c1, c2].drop 2).take (Tryz.prog.cellsOf 9)) = some y2 := hf 2 _ rfl
      rw [cellsBool] at h0
      rw [cellsString] at h1 h2
      have g0 : DataW.trod enc Tryz.prog w base spare held n 4 [c0] = some y0 := h0
      have g1 : DataW.trod enc Tryz.prog w base spare held n 9 [c1] = some y1 := h1
      have g2 : DataW.trod enc Tryz.prog w base spare held n 9 [c2] = some y2 := h2
      obtain ⟨b, e0, _⟩ := DataW.trod_bool Tryz.underlying4 g0
      obtain ⟨s, e1, _, ws⟩ := DataW.trod_string Tryz.underlying9 g1
      obtain ⟨t, e2, _, wt⟩ := DataW.trod_string Tryz.underlying9 g2
      simp at e0 e1 e2
      subst e0 e1 e2
      exact ⟨⟨b, s, t⟩, rfl, ws, wt⟩

instance : Inhabited Q3 := ⟨q0⟩
theorem add_lit (g o n : Nat) : (⟨g, o, none⟩ : Addr).add n = ⟨g, o + n, none⟩ := by
  unfold Addr.add; split
  · subst n; rfl
  · rfl
end

end Go.Proofs.YtogciehmdlfkfaaGreatDoor
