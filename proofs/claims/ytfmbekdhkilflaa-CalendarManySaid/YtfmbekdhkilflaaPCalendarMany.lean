/-
  CalendarMany: for every input the law returns true: exactly lists of at most 1000 holidays are accepted. No condition.
-/
import Derived.Test.YtfmbekdhkilflaaC11
import Derived.Test.YtfmbekdhkilflaaCF
namespace Go.Proofs.Ytfmbekdhkilflaa
open Go.RowKit
open Go.ChangeShapes Go.WideShapes Go.ChangeAt
open Go.ChangeMaps (open_string shut_string)

set_option maxRecDepth 100000 in
theorem calendarMany_lifted (os : Os) (started : os.Started) (H : Type) (enc : TypeId × Value → H) :
    ReturnsInHanded {} Try.checked os 8 .any (Rows.calendarManySpec.pre6 enc Try.prog Try.f8 [] false) (Rows.calendarManySpec.post enc Try.prog Try.f8 false true false false) := by
  refine returnsInHanded_of_change (C := Try.checked) own started (by kernel_rfl) Try.func8
    (ChangeSpec.witness6 (enc := enc) (C := Try.checked) false ⟨#[], #[.int .u16 0], []⟩ 8 (by kernel_rfl) (by kernel_rfl) (by kernel_rfl) (by kernel_rfl)) ?_
  intro W base args ds gs before hval0 hW _ _
  have hval : ∀ (j : Nat) t v, Try.f8.params[j]? = some t → args[j]? = some v → Value.okWide Try.prog W .any base t v := hval0
  have hW' := hW
  obtain ⟨p, q, hA0, hV, rfl, _, _⟩ := hW
  have hA : DataW.TrodAll enc Try.prog W 0 (fun _ => true) true Try.f8.params.toList args.toList ds p := hA0
  rw [Try.params8] at hA hval
  obtain ⟨v0, d0, rfl, rfl, h0⟩ := trodAll_one hA
  obtain ⟨rfl, rfl⟩ := trodVars_none hV
  obtain ⟨a0, rfl, rfl, rfl, b0⟩ := open_int Try.underlying35 (hval 0 35 v0 rfl rfl) h0
  simp only [List.append_nil] at hW'
  refine (lmany_any a0 W (u16rng b0)).mono fun e W' ⟨he, hch⟩ => ?_
  subst he
  exact ⟨_, rfl, _, _, _, [], [], [], hW', trodAll_mk1 (shut_bool Try.underlying4 _), trodAll_mk1 (shut_int Try.underlying35 b0), rfl, hch.below.frame _, fun h => by cases h⟩

theorem calendarMany_k0 : (Rows.calendarManyRow.wf (OpenSpec.ofChange Rows.calendarManySpec)) = true := by kernel_rfl
theorem calendarMany_k1 : (laidOutB Try.pinned.checked.prog) = true := by kernel_rfl
theorem calendarMany_k2 : (mapsRowed Try.pinned.checked.prog) = true := by kernel_rfl
theorem calendarMany_k3 : (Try.f8.params.all (Try.pinned.checked.prog.readableRec ·)) = true := by kernel_rfl
theorem calendarMany_k4 : (namedTie Try.pinned.checked.prog Rows.calendarManyRow.named Rows.calendarManySpec.vars) = true := by kernel_rfl
theorem calendarMany_k5 : (Rows.calendarManyRow.stops == []) = true := by kernel_rfl
theorem calendarMany_k6 : (Try.pinned.checked.prog.stops == []) = true := by kernel_rfl
theorem calendarMany_k7 : (Rows.calendarManyRow.knobs == []) = true := by kernel_rfl
theorem calendarMany_k8 : (Try.pinned.checked.prog.stopKnobs == []) = true := by kernel_rfl
theorem calendarMany_k9 : (Rows.calendarManyRow.inPlace == Try.pinned.checked.prog.inPlace 8) = true := by kernel_rfl
theorem calendarMany_k10 : (Rows.calendarManyRow.unfollowed == Try.pinned.checked.prog.unfollowed 8) = true := by kernel_rfl
theorem calendarMany_k11 : (Rows.calendarManyRow.recurses == Try.pinned.checked.prog.recurses 8) = true := by kernel_rfl
theorem calendarMany_k12 : (Rows.calendarManyRow.named == Try.pinned.checked.prog.varsNamed 8) = true := by kernel_rfl
theorem calendarMany_k13 : (Rows.calendarManyRow.maps == (Try.f8.params.toList ++ Rows.calendarManySpec.plain.varTypes Try.pinned.checked.prog).any (Try.pinned.checked.prog.mapsRec ·)) = true := by kernel_rfl
theorem calendarMany_k14 : (Rows.calendarManyRow.ifaces == (Try.f8.params.toList ++ Rows.calendarManySpec.plain.varTypes Try.pinned.checked.prog).any (Try.pinned.checked.prog.ifacesRec ·)) = true := by kernel_rfl
theorem calendarMany_k15 : (Rows.calendarManyRow.mapsOut == Try.pinned.checked.prog.mapsAmong Try.f8.resultTypes.toList) = true := by kernel_rfl
theorem calendarMany_k16 : (Rows.calendarManyRow.loops == (Try.f8.params.toList ++ Rows.calendarManySpec.plain.varTypes Try.pinned.checked.prog).any (Try.pinned.checked.prog.loopsFrom ·)) = true := by kernel_rfl
theorem calendarMany_k17 : (Rows.calendarManyRow.wideKeys == (Try.f8.params.toList ++ Rows.calendarManySpec.plain.varTypes Try.pinned.checked.prog ++ Try.f8.resultTypes.toList).any (Try.pinned.checked.prog.wideKeysFrom ·)) = true := by kernel_rfl
theorem calendarMany_k18 : (Rows.calendarManySpec.vars.all (Try.pinned.checked.prog.varReadable ·)) = true := by kernel_rfl
theorem calendarMany_k19 : (Try.f8.resultTypes.all (fun t => Try.pinned.checked.prog.readableRec t && decide (t < Try.pinned.checked.prog.types.size))) = true := by kernel_rfl
theorem calendarMany_k20 : (Rows.calendarManyRow.ifacesOut == Try.f8.resultTypes.toList.any (Try.pinned.checked.prog.ifacesRec ·)) = true := by kernel_rfl
theorem calendarMany_k21 : (Rows.calendarManyRow.loopsOut == Try.f8.resultTypes.toList.any (Try.pinned.checked.prog.loopsFrom ·)) = true := by kernel_rfl
theorem calendarMany_k22 : (Rows.calendarManyRow.plainKeys == Try.pinned.checked.prog.plainKeys) = true := by kernel_rfl
theorem calendarMany_k23 : (Rows.calendarManyRow.shortTexts.isNone) = true := by kernel_rfl
theorem calendarMany_k24 : (Try.pinned.checked.prog.stopsHeard) = true := by kernel_rfl
theorem calendarMany_k25 : (Try.pinned.checked.prog.mayEnter) = true := by kernel_rfl
theorem calendarMany_k26 : (Rows.calendarManyRow.lifted == Try.pinned.checked.prog.liftsFinal) = true := by kernel_rfl
theorem calendarMany_k27 : (Try.pinned.checked.prog.make == some Rows.calendarManyRow.make) = true := by kernel_rfl
theorem calendarMany_k28 : (Rows.calendarManyRow.kinds == (if Rows.calendarManyRow.domain.isEmpty then [] else Try.f8.params.toList.map fun t => match Try.pinned.checked.prog.underlying t with | some (.int k) => some k | _ => none)) = true := by kernel_rfl
theorem calendarMany_k29 : (Rows.calendarManyRow.pinned == Rows.calendarManyRow.pinnedBy) = true := by kernel_rfl
theorem calendarMany_k30 : (Rows.calendarManyRow.veiled == (Try.f8.params.toList ++ Rows.calendarManySpec.plain.varTypes Try.pinned.checked.prog ++ Try.f8.resultTypes.toList).any (Try.pinned.checked.prog.veiledRec ·)) = true := by kernel_rfl
theorem calendarMany_k31 : (Rows.calendarManyRow.veiledFits Try.pinned.checked.prog Try.f8.params.toList (Try.f8.params.toList ++ Rows.calendarManySpec.plain.varTypes Try.pinned.checked.prog ++ Try.f8.resultTypes.toList)) = true := by kernel_rfl
set_option maxRecDepth 100000 in
theorem calendarMany_closed : joinedFacts Try.pinned.checked.prog 8 Try.f8 Rows.calendarManySpec Rows.calendarManyRow = true := by
  simp only [joinedFacts, Bool.and_eq_true]
  exact ⟨⟨⟨⟨⟨⟨⟨⟨⟨⟨⟨⟨⟨⟨⟨⟨⟨⟨⟨⟨⟨⟨⟨⟨⟨⟨⟨⟨⟨⟨⟨calendarMany_k0, calendarMany_k1⟩, calendarMany_k2⟩, calendarMany_k3⟩, calendarMany_k4⟩, calendarMany_k5⟩, calendarMany_k6⟩, calendarMany_k7⟩, calendarMany_k8⟩, calendarMany_k9⟩, calendarMany_k10⟩, calendarMany_k11⟩, calendarMany_k12⟩, calendarMany_k13⟩, calendarMany_k14⟩, calendarMany_k15⟩, calendarMany_k16⟩, calendarMany_k17⟩, calendarMany_k18⟩, calendarMany_k19⟩, calendarMany_k20⟩, calendarMany_k21⟩, calendarMany_k22⟩, calendarMany_k23⟩, calendarMany_k24⟩, calendarMany_k25⟩, calendarMany_k26⟩, calendarMany_k27⟩, calendarMany_k28⟩, calendarMany_k29⟩, calendarMany_k30⟩, calendarMany_k31⟩

theorem calendarMany_holds : Rows.CalendarManySaid :=
  OpenClaim.holds_of_wide 8 Try.f8 rfl rfl rfl rfl rfl rfl rfl ⟨rfl, rfl, rfl, rfl, rfl⟩ rfl rfl rfl rfl rfl (by kernel_rfl) Try.func8 calendarMany_closed
    (of_decide_eq_true (by kernel_rfl)) (by unfold Func.isWrapper; first | (rw [if_pos (by decide +kernel)]; kernel_rfl) | (rw [if_neg (by decide +kernel)]; exact ⟨rfl, rfl⟩))
    (fun os started H enc _ => calendarMany_lifted os started H enc)

end Go.Proofs.Ytfmbekdhkilflaa
