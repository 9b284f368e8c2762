/-
  CalendarInverse: for every input the law returns true: as many business days are counted as were added. No condition.
-/
import Derived.Test.YtfmbekdhkilflaaC10
import Derived.Test.YtfmbekdhkilflaaCF
namespace Go.Proofs.Ytfmbekdhkilflaa
open Go.RowKit
open Go.ChangeShapes Go.WideShapes Go.ChangeAt
open Go.ChangeMaps (open_string shut_string)

set_option maxRecDepth 100000 in
theorem calendarInverse_lifted (os : Os) (started : os.Started) (H : Type) (enc : TypeId × Value → H) :
    ReturnsInHanded {} Try.checked os 9 .any (Rows.calendarInverseSpec.pre6 enc Try.prog Try.f9 [] false) (Rows.calendarInverseSpec.post enc Try.prog Try.f9 false true false false) := by
  refine returnsInHanded_of_change (C := Try.checked) own started (by kernel_rfl) Try.func9
    (ChangeSpec.witness6 (enc := enc) (C := Try.checked) false ⟨#[], #[.int .u8 0, .int .u8 0, .slice none 0 0], []⟩ 8 (by kernel_rfl) (by kernel_rfl) (by kernel_rfl) (by kernel_rfl)) ?_
  intro W base args ds gs before hval0 hW _ _
  have hval : ∀ (j : Nat) t v, Try.f9.params[j]? = some t → args[j]? = some v → Value.okWide Try.prog W .any base t v := hval0
  have hW' := hW
  obtain ⟨p, q, hA0, hV, rfl, _, _⟩ := hW
  have hA : DataW.TrodAll enc Try.prog W 0 (fun _ => true) true Try.f9.params.toList args.toList ds p := hA0
  rw [Try.params9] at hA hval
  obtain ⟨v0, v1, v2, d0, d1, d2, p0, p1, p2, rfl, rfl, rfl, h0, h1, h2⟩ := trodAll_three hA
  obtain ⟨rfl, rfl⟩ := trodVars_none hV
  obtain ⟨a0, rfl, rfl, rfl, b0⟩ := open_int Try.underlying5 (hval 0 5 v0 rfl rfl) h0
  obtain ⟨a1, rfl, rfl, rfl, b1⟩ := open_int Try.underlying5 (hval 1 5 v1 rfl rfl) h1
  obtain ⟨A2, cap2, a2, rfl, b2, c2, e2⟩ := open_us (hval 2 37 v2 rfl rfl) h2
  simp only [List.append_nil] at hW'
  refine (linverse_any a0 a1 a2 _ A2 cap2 W (u8rng b0) (u8rng b1) rfl b2 c2 e2).mono fun e W' ⟨he, hch⟩ => ?_
  subst he
  exact ⟨_, rfl, _, _, _, [], _, [], hW', trodAll_mk1 (shut_bool Try.underlying4 _), args_again (by rw [Try.params9]; exact of_decide_eq_true (by kernel_rfl)) hA0 hch.below, rfl, hch.below.frame _, fun h => by cases h⟩

theorem calendarInverse_k0 : (Rows.calendarInverseRow.wf (OpenSpec.ofChange Rows.calendarInverseSpec)) = true := by kernel_rfl
theorem calendarInverse_k1 : (laidOutB Try.pinned.checked.prog) = true := by kernel_rfl
theorem calendarInverse_k2 : (mapsRowed Try.pinned.checked.prog) = true := by kernel_rfl
theorem calendarInverse_k3 : (Try.f9.params.all (Try.pinned.checked.prog.readableRec ·)) = true := by kernel_rfl
theorem calendarInverse_k4 : (namedTie Try.pinned.checked.prog Rows.calendarInverseRow.named Rows.calendarInverseSpec.vars) = true := by kernel_rfl
theorem calendarInverse_k5 : (Rows.calendarInverseRow.stops == []) = true := by kernel_rfl
theorem calendarInverse_k6 : (Try.pinned.checked.prog.stops == []) = true := by kernel_rfl
theorem calendarInverse_k7 : (Rows.calendarInverseRow.knobs == []) = true := by kernel_rfl
theorem calendarInverse_k8 : (Try.pinned.checked.prog.stopKnobs == []) = true := by kernel_rfl
theorem calendarInverse_k9 : (Rows.calendarInverseRow.inPlace == Try.pinned.checked.prog.inPlace 9) = true := by kernel_rfl
theorem calendarInverse_k10 : (Rows.calendarInverseRow.unfollowed == Try.pinned.checked.prog.unfollowed 9) = true := by kernel_rfl
theorem calendarInverse_k11 : (Rows.calendarInverseRow.recurses == Try.pinned.checked.prog.recurses 9) = true := by kernel_rfl
theorem calendarInverse_k12 : (Rows.calendarInverseRow.named == Try.pinned.checked.prog.varsNamed 9) = true := by kernel_rfl
theorem calendarInverse_k13 : (Rows.calendarInverseRow.maps == (Try.f9.params.toList ++ Rows.calendarInverseSpec.plain.varTypes Try.pinned.checked.prog).any (Try.pinned.checked.prog.mapsRec ·)) = true := by kernel_rfl
theorem calendarInverse_k14 : (Rows.calendarInverseRow.ifaces == (Try.f9.params.toList ++ Rows.calendarInverseSpec.plain.varTypes Try.pinned.checked.prog).any (Try.pinned.checked.prog.ifacesRec ·)) = true := by kernel_rfl
theorem calendarInverse_k15 : (Rows.calendarInverseRow.mapsOut == Try.pinned.checked.prog.mapsAmong Try.f9.resultTypes.toList) = true := by kernel_rfl
theorem calendarInverse_k16 : (Rows.calendarInverseRow.loops == (Try.f9.params.toList ++ Rows.calendarInverseSpec.plain.varTypes Try.pinned.checked.prog).any (Try.pinned.checked.prog.loopsFrom ·)) = true := by kernel_rfl
theorem calendarInverse_k17 : (Rows.calendarInverseRow.wideKeys == (Try.f9.params.toList ++ Rows.calendarInverseSpec.plain.varTypes Try.pinned.checked.prog ++ Try.f9.resultTypes.toList).any (Try.pinned.checked.prog.wideKeysFrom ·)) = true := by kernel_rfl
theorem calendarInverse_k18 : (Rows.calendarInverseSpec.vars.all (Try.pinned.checked.prog.varReadable ·)) = true := by kernel_rfl
theorem calendarInverse_k19 : (Try.f9.resultTypes.all (fun t => Try.pinned.checked.prog.readableRec t && decide (t < Try.pinned.checked.prog.types.size))) = true := by kernel_rfl
theorem calendarInverse_k20 : (Rows.calendarInverseRow.ifacesOut == Try.f9.resultTypes.toList.any (Try.pinned.checked.prog.ifacesRec ·)) = true := by kernel_rfl
theorem calendarInverse_k21 : (Rows.calendarInverseRow.loopsOut == Try.f9.resultTypes.toList.any (Try.pinned.checked.prog.loopsFrom ·)) = true := by kernel_rfl
theorem calendarInverse_k22 : (Rows.calendarInverseRow.plainKeys == Try.pinned.checked.prog.plainKeys) = true := by kernel_rfl
theorem calendarInverse_k23 : (Rows.calendarInverseRow.shortTexts.isNone) = true := by kernel_rfl
theorem calendarInverse_k24 : (Try.pinned.checked.prog.stopsHeard) = true := by kernel_rfl
theorem calendarInverse_k25 : (Try.pinned.checked.prog.mayEnter) = true := by kernel_rfl
theorem calendarInverse_k26 : (Rows.calendarInverseRow.lifted == Try.pinned.checked.prog.liftsFinal) = true := by kernel_rfl
theorem calendarInverse_k27 : (Try.pinned.checked.prog.make == some Rows.calendarInverseRow.make) = true := by kernel_rfl
theorem calendarInverse_k28 : (Rows.calendarInverseRow.kinds == (if Rows.calendarInverseRow.domain.isEmpty then [] else Try.f9.params.toList.map fun t => match Try.pinned.checked.prog.underlying t with | some (.int k) => some k | _ => none)) = true := by kernel_rfl
theorem calendarInverse_k29 : (Rows.calendarInverseRow.pinned == Rows.calendarInverseRow.pinnedBy) = true := by kernel_rfl
theorem calendarInverse_k30 : (Rows.calendarInverseRow.veiled == (Try.f9.params.toList ++ Rows.calendarInverseSpec.plain.varTypes Try.pinned.checked.prog ++ Try.f9.resultTypes.toList).any (Try.pinned.checked.prog.veiledRec ·)) = true := by kernel_rfl
theorem calendarInverse_k31 : (Rows.calendarInverseRow.veiledFits Try.pinned.checked.prog Try.f9.params.toList (Try.f9.params.toList ++ Rows.calendarInverseSpec.plain.varTypes Try.pinned.checked.prog ++ Try.f9.resultTypes.toList)) = true := by kernel_rfl
set_option maxRecDepth 100000 in
theorem calendarInverse_closed : joinedFacts Try.pinned.checked.prog 9 Try.f9 Rows.calendarInverseSpec Rows.calendarInverseRow = true := by
  simp only [joinedFacts, Bool.and_eq_true]
  exact ⟨⟨⟨⟨⟨⟨⟨⟨⟨⟨⟨⟨⟨⟨⟨⟨⟨⟨⟨⟨⟨⟨⟨⟨⟨⟨⟨⟨⟨⟨⟨calendarInverse_k0, calendarInverse_k1⟩, calendarInverse_k2⟩, calendarInverse_k3⟩, calendarInverse_k4⟩, calendarInverse_k5⟩, calendarInverse_k6⟩, calendarInverse_k7⟩, calendarInverse_k8⟩, calendarInverse_k9⟩, calendarInverse_k10⟩, calendarInverse_k11⟩, calendarInverse_k12⟩, calendarInverse_k13⟩, calendarInverse_k14⟩, calendarInverse_k15⟩, calendarInverse_k16⟩, calendarInverse_k17⟩, calendarInverse_k18⟩, calendarInverse_k19⟩, calendarInverse_k20⟩, calendarInverse_k21⟩, calendarInverse_k22⟩, calendarInverse_k23⟩, calendarInverse_k24⟩, calendarInverse_k25⟩, calendarInverse_k26⟩, calendarInverse_k27⟩, calendarInverse_k28⟩, calendarInverse_k29⟩, calendarInverse_k30⟩, calendarInverse_k31⟩

theorem calendarInverse_holds : Rows.CalendarInverseSaid :=
  OpenClaim.holds_of_wide 9 Try.f9 rfl rfl rfl rfl rfl rfl rfl ⟨rfl, rfl, rfl, rfl, rfl⟩ rfl rfl rfl rfl rfl (by kernel_rfl) Try.func9 calendarInverse_closed
    (of_decide_eq_true (by kernel_rfl)) (by unfold Func.isWrapper; first | (rw [if_pos (by decide +kernel)]; kernel_rfl) | (rw [if_neg (by decide +kernel)]; exact ⟨rfl, rfl⟩))
    (fun os started H enc _ => calendarInverse_lifted os started H enc)

end Go.Proofs.Ytfmbekdhkilflaa
