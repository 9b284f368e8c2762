/-
  CalendarSteps: for every input the law returns true: business days can be added one after the other. No condition.
-/
import Derived.Test.YtfmbekdhkilflaaC11
import Derived.Test.YtfmbekdhkilflaaCF
namespace Go.Proofs.Ytfmbekdhkilflaa
open Go.RowKit
open Go.ChangeShapes Go.WideShapes Go.ChangeAt
open Go.ChangeMaps (open_string shut_string)

set_option maxRecDepth 100000 in
theorem calendarSteps_lifted (os : Os) (started : os.Started) (H : Type) (enc : TypeId × Value → H) :
    ReturnsInHanded {} Try.checked os 10 .any (Rows.calendarStepsSpec.pre6 enc Try.prog Try.f10 [] false) (Rows.calendarStepsSpec.post enc Try.prog Try.f10 false true false false) := by
  refine returnsInHanded_of_change (C := Try.checked) own started (by kernel_rfl) Try.func10
    (ChangeSpec.witness6 (enc := enc) (C := Try.checked) false ⟨#[], #[.int .u8 0, .int .u8 0, .int .u8 0, .slice none 0 0], []⟩ 8 (by kernel_rfl) (by kernel_rfl) (by kernel_rfl) (by kernel_rfl)) ?_
  intro W base args ds gs before hval0 hW _ _
  have hval : ∀ (j : Nat) t v, Try.f10.params[j]? = some t → args[j]? = some v → Value.okWide Try.prog W .any base t v := hval0
  have hW' := hW
  obtain ⟨p, q, hA0, hV, rfl, _, _⟩ := hW
  have hA : DataW.TrodAll enc Try.prog W 0 (fun _ => true) true Try.f10.params.toList args.toList ds p := hA0
  rw [Try.params10] at hA hval
  obtain ⟨v0, v1, v2, v3, d0, d1, d2, d3, p0, p1, p2, p3, rfl, rfl, rfl, h0, h1, h2, h3⟩ := trodAll_four hA
  obtain ⟨rfl, rfl⟩ := trodVars_none hV
  obtain ⟨a0, rfl, rfl, rfl, b0⟩ := open_int Try.underlying5 (hval 0 5 v0 rfl rfl) h0
  obtain ⟨a1, rfl, rfl, rfl, b1⟩ := open_int Try.underlying5 (hval 1 5 v1 rfl rfl) h1
  obtain ⟨a2, rfl, rfl, rfl, b2⟩ := open_int Try.underlying5 (hval 2 5 v2 rfl rfl) h2
  obtain ⟨A3, cap3, a3, rfl, b3, c3, e3⟩ := open_us (hval 3 37 v3 rfl rfl) h3
  simp only [List.append_nil] at hW'
  refine (lsteps_any a0 a1 a2 a3 _ A3 cap3 W (u8rng b0) (u8rng b1) (u8rng b2) rfl b3 c3 e3).mono fun e W' ⟨he, hch⟩ => ?_
  subst he
  exact ⟨_, rfl, _, _, _, [], _, [], hW', trodAll_mk1 (shut_bool Try.underlying4 _), args_again (by rw [Try.params10]; exact of_decide_eq_true (by kernel_rfl)) hA0 hch.below, rfl, hch.below.frame _, fun h => by cases h⟩

theorem calendarSteps_k0 : (Rows.calendarStepsRow.wf (OpenSpec.ofChange Rows.calendarStepsSpec)) = true := by kernel_rfl
theorem calendarSteps_k1 : (laidOutB Try.pinned.checked.prog) = true := by kernel_rfl
theorem calendarSteps_k2 : (mapsRowed Try.pinned.checked.prog) = true := by kernel_rfl
theorem calendarSteps_k3 : (Try.f10.params.all (Try.pinned.checked.prog.readableRec ·)) = true := by kernel_rfl
theorem calendarSteps_k4 : (namedTie Try.pinned.checked.prog Rows.calendarStepsRow.named Rows.calendarStepsSpec.vars) = true := by kernel_rfl
theorem calendarSteps_k5 : (Rows.calendarStepsRow.stops == []) = true := by kernel_rfl
theorem calendarSteps_k6 : (Try.pinned.checked.prog.stops == []) = true := by kernel_rfl
theorem calendarSteps_k7 : (Rows.calendarStepsRow.knobs == []) = true := by kernel_rfl
theorem calendarSteps_k8 : (Try.pinned.checked.prog.stopKnobs == []) = true := by kernel_rfl
theorem calendarSteps_k9 : (Rows.calendarStepsRow.inPlace == Try.pinned.checked.prog.inPlace 10) = true := by kernel_rfl
theorem calendarSteps_k10 : (Rows.calendarStepsRow.unfollowed == Try.pinned.checked.prog.unfollowed 10) = true := by kernel_rfl
theorem calendarSteps_k11 : (Rows.calendarStepsRow.recurses == Try.pinned.checked.prog.recurses 10) = true := by kernel_rfl
theorem calendarSteps_k12 : (Rows.calendarStepsRow.named == Try.pinned.checked.prog.varsNamed 10) = true := by kernel_rfl
theorem calendarSteps_k13 : (Rows.calendarStepsRow.maps == (Try.f10.params.toList ++ Rows.calendarStepsSpec.plain.varTypes Try.pinned.checked.prog).any (Try.pinned.checked.prog.mapsRec ·)) = true := by kernel_rfl
theorem calendarSteps_k14 : (Rows.calendarStepsRow.ifaces == (Try.f10.params.toList ++ Rows.calendarStepsSpec.plain.varTypes Try.pinned.checked.prog).any (Try.pinned.checked.prog.ifacesRec ·)) = true := by kernel_rfl
theorem calendarSteps_k15 : (Rows.calendarStepsRow.mapsOut == Try.pinned.checked.prog.mapsAmong Try.f10.resultTypes.toList) = true := by kernel_rfl
theorem calendarSteps_k16 : (Rows.calendarStepsRow.loops == (Try.f10.params.toList ++ Rows.calendarStepsSpec.plain.varTypes Try.pinned.checked.prog).any (Try.pinned.checked.prog.loopsFrom ·)) = true := by kernel_rfl
theorem calendarSteps_k17 : (Rows.calendarStepsRow.wideKeys == (Try.f10.params.toList ++ Rows.calendarStepsSpec.plain.varTypes Try.pinned.checked.prog ++ Try.f10.resultTypes.toList).any (Try.pinned.checked.prog.wideKeysFrom ·)) = true := by kernel_rfl
theorem calendarSteps_k18 : (Rows.calendarStepsSpec.vars.all (Try.pinned.checked.prog.varReadable ·)) = true := by kernel_rfl
theorem calendarSteps_k19 : (Try.f10.resultTypes.all (fun t => Try.pinned.checked.prog.readableRec t && decide (t < Try.pinned.checked.prog.types.size))) = true := by kernel_rfl
theorem calendarSteps_k20 : (Rows.calendarStepsRow.ifacesOut == Try.f10.resultTypes.toList.any (Try.pinned.checked.prog.ifacesRec ·)) = true := by kernel_rfl
theorem calendarSteps_k21 : (Rows.calendarStepsRow.loopsOut == Try.f10.resultTypes.toList.any (Try.pinned.checked.prog.loopsFrom ·)) = true := by kernel_rfl
theorem calendarSteps_k22 : (Rows.calendarStepsRow.plainKeys == Try.pinned.checked.prog.plainKeys) = true := by kernel_rfl
theorem calendarSteps_k23 : (Rows.calendarStepsRow.shortTexts.isNone) = true := by kernel_rfl
theorem calendarSteps_k24 : (Try.pinned.checked.prog.stopsHeard) = true := by kernel_rfl
theorem calendarSteps_k25 : (Try.pinned.checked.prog.mayEnter) = true := by kernel_rfl
theorem calendarSteps_k26 : (Rows.calendarStepsRow.lifted == Try.pinned.checked.prog.liftsFinal) = true := by kernel_rfl
theorem calendarSteps_k27 : (Try.pinned.checked.prog.make == some Rows.calendarStepsRow.make) = true := by kernel_rfl
theorem calendarSteps_k28 : (Rows.calendarStepsRow.kinds == (if Rows.calendarStepsRow.domain.isEmpty then [] else Try.f10.params.toList.map fun t => match Try.pinned.checked.prog.underlying t with | some (.int k) => some k | _ => none)) = true := by kernel_rfl
theorem calendarSteps_k29 : (Rows.calendarStepsRow.pinned == Rows.calendarStepsRow.pinnedBy) = true := by kernel_rfl
theorem calendarSteps_k30 : (Rows.calendarStepsRow.veiled == (Try.f10.params.toList ++ Rows.calendarStepsSpec.plain.varTypes Try.pinned.checked.prog ++ Try.f10.resultTypes.toList).any (Try.pinned.checked.prog.veiledRec ·)) = true := by kernel_rfl
theorem calendarSteps_k31 : (Rows.calendarStepsRow.veiledFits Try.pinned.checked.prog Try.f10.params.toList (Try.f10.params.toList ++ Rows.calendarStepsSpec.plain.varTypes Try.pinned.checked.prog ++ Try.f10.resultTypes.toList)) = true := by kernel_rfl
set_option maxRecDepth 100000 in
theorem calendarSteps_closed : joinedFacts Try.pinned.checked.prog 10 Try.f10 Rows.calendarStepsSpec Rows.calendarStepsRow = true := by
  simp only [joinedFacts, Bool.and_eq_true]
  exact ⟨⟨⟨⟨⟨⟨⟨⟨⟨⟨⟨⟨⟨⟨⟨⟨⟨⟨⟨⟨⟨⟨⟨⟨⟨⟨⟨⟨⟨⟨⟨calendarSteps_k0, calendarSteps_k1⟩, calendarSteps_k2⟩, calendarSteps_k3⟩, calendarSteps_k4⟩, calendarSteps_k5⟩, calendarSteps_k6⟩, calendarSteps_k7⟩, calendarSteps_k8⟩, calendarSteps_k9⟩, calendarSteps_k10⟩, calendarSteps_k11⟩, calendarSteps_k12⟩, calendarSteps_k13⟩, calendarSteps_k14⟩, calendarSteps_k15⟩, calendarSteps_k16⟩, calendarSteps_k17⟩, calendarSteps_k18⟩, calendarSteps_k19⟩, calendarSteps_k20⟩, calendarSteps_k21⟩, calendarSteps_k22⟩, calendarSteps_k23⟩, calendarSteps_k24⟩, calendarSteps_k25⟩, calendarSteps_k26⟩, calendarSteps_k27⟩, calendarSteps_k28⟩, calendarSteps_k29⟩, calendarSteps_k30⟩, calendarSteps_k31⟩

theorem calendarSteps_holds : Rows.CalendarStepsSaid :=
  OpenClaim.holds_of_wide 10 Try.f10 rfl rfl rfl rfl rfl rfl rfl ⟨rfl, rfl, rfl, rfl, rfl⟩ rfl rfl rfl rfl rfl (by kernel_rfl) Try.func10 calendarSteps_closed
    (of_decide_eq_true (by kernel_rfl)) (by unfold Func.isWrapper; first | (rw [if_pos (by decide +kernel)]; kernel_rfl) | (rw [if_neg (by decide +kernel)]; exact ⟨rfl, rfl⟩))
    (fun os started H enc _ => calendarSteps_lifted os started H enc)

end Go.Proofs.Ytfmbekdhkilflaa
