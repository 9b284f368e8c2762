/-
  CalendarBusiness: for every input the law returns true: IsBusiness agrees with the definition. No condition.
-/
import Derived.Test.YtfmbekdhkilflaaC9
import Derived.Test.YtfmbekdhkilflaaCF
namespace Go.Proofs.Ytfmbekdhkilflaa
open Go.RowKit
open Go.ChangeShapes Go.WideShapes Go.ChangeAt
open Go.ChangeMaps (open_string shut_string)

set_option maxRecDepth 100000 in
theorem calendarBusiness_lifted (os : Os) (started : os.Started) (H : Type) (enc : TypeId × Value → H) :
    ReturnsInHanded {} Try.checked os 4 .any (Rows.calendarBusinessSpec.pre6 enc Try.prog Try.f4 [] false) (Rows.calendarBusinessSpec.post enc Try.prog Try.f4 false true false false) := by
  refine returnsInHanded_of_change (C := Try.checked) own started (by kernel_rfl) Try.func4
    (ChangeSpec.witness6 (enc := enc) (C := Try.checked) false ⟨#[], #[.int .i64 0, .slice none 0 0], []⟩ 8 (by kernel_rfl) (by kernel_rfl) (by kernel_rfl) (by kernel_rfl)) ?_
  intro W base args ds gs before hval0 hW _ _
  have hval : ∀ (j : Nat) t v, Try.f4.params[j]? = some t → args[j]? = some v → Value.okWide Try.prog W .any base t v := hval0
  have hW' := hW
  obtain ⟨p, q, hA0, hV, rfl, _, _⟩ := hW
  have hA : DataW.TrodAll enc Try.prog W 0 (fun _ => true) true Try.f4.params.toList args.toList ds p := hA0
  rw [Try.params4] at hA hval
  obtain ⟨v0, v1, d0, d1, p0, p1, rfl, rfl, rfl, h0, h1⟩ := trodAll_two hA
  obtain ⟨rfl, rfl⟩ := trodVars_none hV
  obtain ⟨a0, rfl, rfl, rfl, b0⟩ := open_int Try.underlying3 (hval 0 3 v0 rfl rfl) h0
  obtain ⟨A1, cap1, a1, rfl, b1, c1, e1⟩ := open_zs (hval 1 25 v1 rfl rfl) h1
  simp only [List.append_nil] at hW'
  refine (lbusiness_any a0 a1 _ A1 cap1 W (i64rng b0) rfl b1 e1).mono fun e W' ⟨he, hch⟩ => ?_
  subst he
  exact ⟨_, rfl, _, _, _, [], _, [], hW', trodAll_mk1 (shut_bool Try.underlying4 _), args_again (by rw [Try.params4]; exact of_decide_eq_true (by kernel_rfl)) hA0 hch.below, rfl, hch.below.frame _, fun h => by cases h⟩

theorem calendarBusiness_k0 : (Rows.calendarBusinessRow.wf (OpenSpec.ofChange Rows.calendarBusinessSpec)) = true := by kernel_rfl
theorem calendarBusiness_k1 : (laidOutB Try.pinned.checked.prog) = true := by kernel_rfl
theorem calendarBusiness_k2 : (mapsRowed Try.pinned.checked.prog) = true := by kernel_rfl
theorem calendarBusiness_k3 : (Try.f4.params.all (Try.pinned.checked.prog.readableRec ·)) = true := by kernel_rfl
theorem calendarBusiness_k4 : (namedTie Try.pinned.checked.prog Rows.calendarBusinessRow.named Rows.calendarBusinessSpec.vars) = true := by kernel_rfl
theorem calendarBusiness_k5 : (Rows.calendarBusinessRow.stops == []) = true := by kernel_rfl
theorem calendarBusiness_k6 : (Try.pinned.checked.prog.stops == []) = true := by kernel_rfl
theorem calendarBusiness_k7 : (Rows.calendarBusinessRow.knobs == []) = true := by kernel_rfl
theorem calendarBusiness_k8 : (Try.pinned.checked.prog.stopKnobs == []) = true := by kernel_rfl
theorem calendarBusiness_k9 : (Rows.calendarBusinessRow.inPlace == Try.pinned.checked.prog.inPlace 4) = true := by kernel_rfl
theorem calendarBusiness_k10 : (Rows.calendarBusinessRow.unfollowed == Try.pinned.checked.prog.unfollowed 4) = true := by kernel_rfl
theorem calendarBusiness_k11 : (Rows.calendarBusinessRow.recurses == Try.pinned.checked.prog.recurses 4) = true := by kernel_rfl
theorem calendarBusiness_k12 : (Rows.calendarBusinessRow.named == Try.pinned.checked.prog.varsNamed 4) = true := by kernel_rfl
theorem calendarBusiness_k13 : (Rows.calendarBusinessRow.maps == (Try.f4.params.toList ++ Rows.calendarBusinessSpec.plain.varTypes Try.pinned.checked.prog).any (Try.pinned.checked.prog.mapsRec ·)) = true := by kernel_rfl
theorem calendarBusiness_k14 : (Rows.calendarBusinessRow.ifaces == (Try.f4.params.toList ++ Rows.calendarBusinessSpec.plain.varTypes Try.pinned.checked.prog).any (Try.pinned.checked.prog.ifacesRec ·)) = true := by kernel_rfl
theorem calendarBusiness_k15 : (Rows.calendarBusinessRow.mapsOut == Try.pinned.checked.prog.mapsAmong Try.f4.resultTypes.toList) = true := by kernel_rfl
theorem calendarBusiness_k16 : (Rows.calendarBusinessRow.loops == (Try.f4.params.toList ++ Rows.calendarBusinessSpec.plain.varTypes Try.pinned.checked.prog).any (Try.pinned.checked.prog.loopsFrom ·)) = true := by kernel_rfl
theorem calendarBusiness_k17 : (Rows.calendarBusinessRow.wideKeys == (Try.f4.params.toList ++ Rows.calendarBusinessSpec.plain.varTypes Try.pinned.checked.prog ++ Try.f4.resultTypes.toList).any (Try.pinned.checked.prog.wideKeysFrom ·)) = true := by kernel_rfl
theorem calendarBusiness_k18 : (Rows.calendarBusinessSpec.vars.all (Try.pinned.checked.prog.varReadable ·)) = true := by kernel_rfl
theorem calendarBusiness_k19 : (Try.f4.resultTypes.all (fun t => Try.pinned.checked.prog.readableRec t && decide (t < Try.pinned.checked.prog.types.size))) = true := by kernel_rfl
theorem calendarBusiness_k20 : (Rows.calendarBusinessRow.ifacesOut == Try.f4.resultTypes.toList.any (Try.pinned.checked.prog.ifacesRec ·)) = true := by kernel_rfl
theorem calendarBusiness_k21 : (Rows.calendarBusinessRow.loopsOut == Try.f4.resultTypes.toList.any (Try.pinned.checked.prog.loopsFrom ·)) = true := by kernel_rfl
theorem calendarBusiness_k22 : (Rows.calendarBusinessRow.plainKeys == Try.pinned.checked.prog.plainKeys) = true := by kernel_rfl
theorem calendarBusiness_k23 : (Rows.calendarBusinessRow.shortTexts.isNone) = true := by kernel_rfl
theorem calendarBusiness_k24 : (Try.pinned.checked.prog.stopsHeard) = true := by kernel_rfl
theorem calendarBusiness_k25 : (Try.pinned.checked.prog.mayEnter) = true := by kernel_rfl
theorem calendarBusiness_k26 : (Rows.calendarBusinessRow.lifted == Try.pinned.checked.prog.liftsFinal) = true := by kernel_rfl
theorem calendarBusiness_k27 : (Try.pinned.checked.prog.make == some Rows.calendarBusinessRow.make) = true := by kernel_rfl
theorem calendarBusiness_k28 : (Rows.calendarBusinessRow.kinds == (if Rows.calendarBusinessRow.domain.isEmpty then [] else Try.f4.params.toList.map fun t => match Try.pinned.checked.prog.underlying t with | some (.int k) => some k | _ => none)) = true := by kernel_rfl
theorem calendarBusiness_k29 : (Rows.calendarBusinessRow.pinned == Rows.calendarBusinessRow.pinnedBy) = true := by kernel_rfl
theorem calendarBusiness_k30 : (Rows.calendarBusinessRow.veiled == (Try.f4.params.toList ++ Rows.calendarBusinessSpec.plain.varTypes Try.pinned.checked.prog ++ Try.f4.resultTypes.toList).any (Try.pinned.checked.prog.veiledRec ·)) = true := by kernel_rfl
theorem calendarBusiness_k31 : (Rows.calendarBusinessRow.veiledFits Try.pinned.checked.prog Try.f4.params.toList (Try.f4.params.toList ++ Rows.calendarBusinessSpec.plain.varTypes Try.pinned.checked.prog ++ Try.f4.resultTypes.toList)) = true := by kernel_rfl
set_option maxRecDepth 100000 in
theorem calendarBusiness_closed : joinedFacts Try.pinned.checked.prog 4 Try.f4 Rows.calendarBusinessSpec Rows.calendarBusinessRow = true := by
  simp only [joinedFacts, Bool.and_eq_true]
  exact ⟨⟨⟨⟨⟨⟨⟨⟨⟨⟨⟨⟨⟨⟨⟨⟨⟨⟨⟨⟨⟨⟨⟨⟨⟨⟨⟨⟨⟨⟨⟨calendarBusiness_k0, calendarBusiness_k1⟩, calendarBusiness_k2⟩, calendarBusiness_k3⟩, calendarBusiness_k4⟩, calendarBusiness_k5⟩, calendarBusiness_k6⟩, calendarBusiness_k7⟩, calendarBusiness_k8⟩, calendarBusiness_k9⟩, calendarBusiness_k10⟩, calendarBusiness_k11⟩, calendarBusiness_k12⟩, calendarBusiness_k13⟩, calendarBusiness_k14⟩, calendarBusiness_k15⟩, calendarBusiness_k16⟩, calendarBusiness_k17⟩, calendarBusiness_k18⟩, calendarBusiness_k19⟩, calendarBusiness_k20⟩, calendarBusiness_k21⟩, calendarBusiness_k22⟩, calendarBusiness_k23⟩, calendarBusiness_k24⟩, calendarBusiness_k25⟩, calendarBusiness_k26⟩, calendarBusiness_k27⟩, calendarBusiness_k28⟩, calendarBusiness_k29⟩, calendarBusiness_k30⟩, calendarBusiness_k31⟩

theorem calendarBusiness_holds : Rows.CalendarBusinessSaid :=
  OpenClaim.holds_of_wide 4 Try.f4 rfl rfl rfl rfl rfl rfl rfl ⟨rfl, rfl, rfl, rfl, rfl⟩ rfl rfl rfl rfl rfl (by kernel_rfl) Try.func4 calendarBusiness_closed
    (of_decide_eq_true (by kernel_rfl)) (by unfold Func.isWrapper; first | (rw [if_pos (by decide +kernel)]; kernel_rfl) | (rw [if_neg (by decide +kernel)]; exact ⟨rfl, rfl⟩))
    (fun os started H enc _ => calendarBusiness_lifted os started H enc)

end Go.Proofs.Ytfmbekdhkilflaa
