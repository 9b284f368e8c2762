/-
  CalendarWeekday: for every input the law returns true: Weekday agrees with the definition for every int, and repeats after seven days. No condition.
-/
import Derived.Test.YtfmbekdhkilflaaC9
import Derived.Test.YtfmbekdhkilflaaCF
namespace Go.Proofs.Ytfmbekdhkilflaa
open Go.RowKit
open Go.ChangeShapes Go.WideShapes Go.ChangeAt
open Go.ChangeMaps (open_string shut_string)

set_option maxRecDepth 100000 in
theorem calendarWeekday_lifted (os : Os) (started : os.Started) (H : Type) (enc : TypeId × Value → H) :
    ReturnsInHanded {} Try.checked os 3 .any (Rows.calendarWeekdaySpec.pre6 enc Try.prog Try.f3 [] false) (Rows.calendarWeekdaySpec.post enc Try.prog Try.f3 false true false false) := by
  refine returnsInHanded_of_change (C := Try.checked) own started (by kernel_rfl) Try.func3
    (ChangeSpec.witness6 (enc := enc) (C := Try.checked) false ⟨#[], #[.int .i64 0], []⟩ 8 (by kernel_rfl) (by kernel_rfl) (by kernel_rfl) (by kernel_rfl)) ?_
  intro W base args ds gs before hval0 hW _ _
  have hval : ∀ (j : Nat) t v, Try.f3.params[j]? = some t → args[j]? = some v → Value.okWide Try.prog W .any base t v := hval0
  have hW' := hW
  obtain ⟨p, q, hA0, hV, rfl, _, _⟩ := hW
  have hA : DataW.TrodAll enc Try.prog W 0 (fun _ => true) true Try.f3.params.toList args.toList ds p := hA0
  rw [Try.params3] at hA hval
  obtain ⟨v0, d0, rfl, rfl, h0⟩ := trodAll_one hA
  obtain ⟨rfl, rfl⟩ := trodVars_none hV
  obtain ⟨a0, rfl, rfl, rfl, b0⟩ := open_int Try.underlying3 (hval 0 3 v0 rfl rfl) h0
  simp only [List.append_nil] at hW'
  refine (lweekday_any a0 W (i64rng b0)).mono fun e W' ⟨he, hch⟩ => ?_
  subst he
  exact ⟨_, rfl, _, _, _, [], [], [], hW', trodAll_mk1 (shut_bool Try.underlying4 _), trodAll_mk1 (shut_int Try.underlying3 b0), rfl, hch.below.frame _, fun h => by cases h⟩

theorem calendarWeekday_k0 : (Rows.calendarWeekdayRow.wf (OpenSpec.ofChange Rows.calendarWeekdaySpec)) = true := by kernel_rfl
theorem calendarWeekday_k1 : (laidOutB Try.pinned.checked.prog) = true := by kernel_rfl
theorem calendarWeekday_k2 : (mapsRowed Try.pinned.checked.prog) = true := by kernel_rfl
theorem calendarWeekday_k3 : (Try.f3.params.all (Try.pinned.checked.prog.readableRec ·)) = true := by kernel_rfl
theorem calendarWeekday_k4 : (namedTie Try.pinned.checked.prog Rows.calendarWeekdayRow.named Rows.calendarWeekdaySpec.vars) = true := by kernel_rfl
theorem calendarWeekday_k5 : (Rows.calendarWeekdayRow.stops == []) = true := by kernel_rfl
theorem calendarWeekday_k6 : (Try.pinned.checked.prog.stops == []) = true := by kernel_rfl
theorem calendarWeekday_k7 : (Rows.calendarWeekdayRow.knobs == []) = true := by kernel_rfl
theorem calendarWeekday_k8 : (Try.pinned.checked.prog.stopKnobs == []) = true := by kernel_rfl
theorem calendarWeekday_k9 : (Rows.calendarWeekdayRow.inPlace == Try.pinned.checked.prog.inPlace 3) = true := by kernel_rfl
theorem calendarWeekday_k10 : (Rows.calendarWeekdayRow.unfollowed == Try.pinned.checked.prog.unfollowed 3) = true := by kernel_rfl
theorem calendarWeekday_k11 : (Rows.calendarWeekdayRow.recurses == Try.pinned.checked.prog.recurses 3) = true := by kernel_rfl
theorem calendarWeekday_k12 : (Rows.calendarWeekdayRow.named == Try.pinned.checked.prog.varsNamed 3) = true := by kernel_rfl
theorem calendarWeekday_k13 : (Rows.calendarWeekdayRow.maps == (Try.f3.params.toList ++ Rows.calendarWeekdaySpec.plain.varTypes Try.pinned.checked.prog).any (Try.pinned.checked.prog.mapsRec ·)) = true := by kernel_rfl
theorem calendarWeekday_k14 : (Rows.calendarWeekdayRow.ifaces == (Try.f3.params.toList ++ Rows.calendarWeekdaySpec.plain.varTypes Try.pinned.checked.prog).any (Try.pinned.checked.prog.ifacesRec ·)) = true := by kernel_rfl
theorem calendarWeekday_k15 : (Rows.calendarWeekdayRow.mapsOut == Try.pinned.checked.prog.mapsAmong Try.f3.resultTypes.toList) = true := by kernel_rfl
theorem calendarWeekday_k16 : (Rows.calendarWeekdayRow.loops == (Try.f3.params.toList ++ Rows.calendarWeekdaySpec.plain.varTypes Try.pinned.checked.prog).any (Try.pinned.checked.prog.loopsFrom ·)) = true := by kernel_rfl
theorem calendarWeekday_k17 : (Rows.calendarWeekdayRow.wideKeys == (Try.f3.params.toList ++ Rows.calendarWeekdaySpec.plain.varTypes Try.pinned.checked.prog ++ Try.f3.resultTypes.toList).any (Try.pinned.checked.prog.wideKeysFrom ·)) = true := by kernel_rfl
theorem calendarWeekday_k18 : (Rows.calendarWeekdaySpec.vars.all (Try.pinned.checked.prog.varReadable ·)) = true := by kernel_rfl
theorem calendarWeekday_k19 : (Try.f3.resultTypes.all (fun t => Try.pinned.checked.prog.readableRec t && decide (t < Try.pinned.checked.prog.types.size))) = true := by kernel_rfl
theorem calendarWeekday_k20 : (Rows.calendarWeekdayRow.ifacesOut == Try.f3.resultTypes.toList.any (Try.pinned.checked.prog.ifacesRec ·)) = true := by kernel_rfl
theorem calendarWeekday_k21 : (Rows.calendarWeekdayRow.loopsOut == Try.f3.resultTypes.toList.any (Try.pinned.checked.prog.loopsFrom ·)) = true := by kernel_rfl
theorem calendarWeekday_k22 : (Rows.calendarWeekdayRow.plainKeys == Try.pinned.checked.prog.plainKeys) = true := by kernel_rfl
theorem calendarWeekday_k23 : (Rows.calendarWeekdayRow.shortTexts.isNone) = true := by kernel_rfl
theorem calendarWeekday_k24 : (Try.pinned.checked.prog.stopsHeard) = true := by kernel_rfl
theorem calendarWeekday_k25 : (Try.pinned.checked.prog.mayEnter) = true := by kernel_rfl
theorem calendarWeekday_k26 : (Rows.calendarWeekdayRow.lifted == Try.pinned.checked.prog.liftsFinal) = true := by kernel_rfl
theorem calendarWeekday_k27 : (Try.pinned.checked.prog.make == some Rows.calendarWeekdayRow.make) = true := by kernel_rfl
theorem calendarWeekday_k28 : (Rows.calendarWeekdayRow.kinds == (if Rows.calendarWeekdayRow.domain.isEmpty then [] else Try.f3.params.toList.map fun t => match Try.pinned.checked.prog.underlying t with | some (.int k) => some k | _ => none)) = true := by kernel_rfl
theorem calendarWeekday_k29 : (Rows.calendarWeekdayRow.pinned == Rows.calendarWeekdayRow.pinnedBy) = true := by kernel_rfl
theorem calendarWeekday_k30 : (Rows.calendarWeekdayRow.veiled == (Try.f3.params.toList ++ Rows.calendarWeekdaySpec.plain.varTypes Try.pinned.checked.prog ++ Try.f3.resultTypes.toList).any (Try.pinned.checked.prog.veiledRec ·)) = true := by kernel_rfl
theorem calendarWeekday_k31 : (Rows.calendarWeekdayRow.veiledFits Try.pinned.checked.prog Try.f3.params.toList (Try.f3.params.toList ++ Rows.calendarWeekdaySpec.plain.varTypes Try.pinned.checked.prog ++ Try.f3.resultTypes.toList)) = true := by kernel_rfl
set_option maxRecDepth 100000 in
theorem calendarWeekday_closed : joinedFacts Try.pinned.checked.prog 3 Try.f3 Rows.calendarWeekdaySpec Rows.calendarWeekdayRow = true := by
  simp only [joinedFacts, Bool.and_eq_true]
  exact ⟨⟨⟨⟨⟨⟨⟨⟨⟨⟨⟨⟨⟨⟨⟨⟨⟨⟨⟨⟨⟨⟨⟨⟨⟨⟨⟨⟨⟨⟨⟨calendarWeekday_k0, calendarWeekday_k1⟩, calendarWeekday_k2⟩, calendarWeekday_k3⟩, calendarWeekday_k4⟩, calendarWeekday_k5⟩, calendarWeekday_k6⟩, calendarWeekday_k7⟩, calendarWeekday_k8⟩, calendarWeekday_k9⟩, calendarWeekday_k10⟩, calendarWeekday_k11⟩, calendarWeekday_k12⟩, calendarWeekday_k13⟩, calendarWeekday_k14⟩, calendarWeekday_k15⟩, calendarWeekday_k16⟩, calendarWeekday_k17⟩, calendarWeekday_k18⟩, calendarWeekday_k19⟩, calendarWeekday_k20⟩, calendarWeekday_k21⟩, calendarWeekday_k22⟩, calendarWeekday_k23⟩, calendarWeekday_k24⟩, calendarWeekday_k25⟩, calendarWeekday_k26⟩, calendarWeekday_k27⟩, calendarWeekday_k28⟩, calendarWeekday_k29⟩, calendarWeekday_k30⟩, calendarWeekday_k31⟩

theorem calendarWeekday_holds : Rows.CalendarWeekdaySaid :=
  OpenClaim.holds_of_wide 3 Try.f3 rfl rfl rfl rfl rfl rfl rfl ⟨rfl, rfl, rfl, rfl, rfl⟩ rfl rfl rfl rfl rfl (by kernel_rfl) Try.func3 calendarWeekday_closed
    (of_decide_eq_true (by kernel_rfl)) (by unfold Func.isWrapper; first | (rw [if_pos (by decide +kernel)]; kernel_rfl) | (rw [if_neg (by decide +kernel)]; exact ⟨rfl, rfl⟩))
    (fun os started H enc _ => calendarWeekday_lifted os started H enc)

end Go.Proofs.Ytfmbekdhkilflaa
