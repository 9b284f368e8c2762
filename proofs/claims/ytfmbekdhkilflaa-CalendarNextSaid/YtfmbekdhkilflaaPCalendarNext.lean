/-
  CalendarNext: for every input the law returns true: Next agrees with the definition. No condition.
-/
import Derived.Test.YtfmbekdhkilflaaC9
import Derived.Test.YtfmbekdhkilflaaCF
namespace Go.Proofs.Ytfmbekdhkilflaa
open Go.RowKit
open Go.ChangeShapes Go.WideShapes Go.ChangeAt
open Go.ChangeMaps (open_string shut_string)

set_option maxRecDepth 100000 in
theorem calendarNext_lifted (os : Os) (started : os.Started) (H : Type) (enc : TypeId × Value → H) :
    ReturnsInHanded {} Try.checked os 5 .any (Rows.calendarNextSpec.pre6 enc Try.prog Try.f5 [] false) (Rows.calendarNextSpec.post enc Try.prog Try.f5 false true false false) := by
  refine returnsInHanded_of_change (C := Try.checked) own started (by kernel_rfl) Try.func5
    (ChangeSpec.witness6 (enc := enc) (C := Try.checked) false ⟨#[], #[.int .i64 0, .slice none 0 0], []⟩ 8 (by kernel_rfl) (by kernel_rfl) (by kernel_rfl) (by kernel_rfl)) ?_
  intro W base args ds gs before hval0 hW _ _
  have hval : ∀ (j : Nat) t v, Try.f5.params[j]? = some t → args[j]? = some v → Value.okWide Try.prog W .any base t v := hval0
  have hW' := hW
  obtain ⟨p, q, hA0, hV, rfl, _, _⟩ := hW
  have hA : DataW.TrodAll enc Try.prog W 0 (fun _ => true) true Try.f5.params.toList args.toList ds p := hA0
  rw [Try.params5] at hA hval
  obtain ⟨v0, v1, d0, d1, p0, p1, rfl, rfl, rfl, h0, h1⟩ := trodAll_two hA
  obtain ⟨rfl, rfl⟩ := trodVars_none hV
  obtain ⟨a0, rfl, rfl, rfl, b0⟩ := open_int Try.underlying3 (hval 0 3 v0 rfl rfl) h0
  obtain ⟨A1, cap1, a1, rfl, b1, c1, e1⟩ := open_zs (hval 1 25 v1 rfl rfl) h1
  simp only [List.append_nil] at hW'
  refine (lnext_any a0 a1 _ A1 cap1 W (i64rng b0) rfl b1 c1 e1).mono fun e W' ⟨he, hch⟩ => ?_
  subst he
  exact ⟨_, rfl, _, _, _, [], _, [], hW', trodAll_mk1 (shut_bool Try.underlying4 _), args_again (by rw [Try.params5]; exact of_decide_eq_true (by kernel_rfl)) hA0 hch.below, rfl, hch.below.frame _, fun h => by cases h⟩

theorem calendarNext_k0 : (Rows.calendarNextRow.wf (OpenSpec.ofChange Rows.calendarNextSpec)) = true := by kernel_rfl
theorem calendarNext_k1 : (laidOutB Try.pinned.checked.prog) = true := by kernel_rfl
theorem calendarNext_k2 : (mapsRowed Try.pinned.checked.prog) = true := by kernel_rfl
theorem calendarNext_k3 : (Try.f5.params.all (Try.pinned.checked.prog.readableRec ·)) = true := by kernel_rfl
theorem calendarNext_k4 : (namedTie Try.pinned.checked.prog Rows.calendarNextRow.named Rows.calendarNextSpec.vars) = true := by kernel_rfl
theorem calendarNext_k5 : (Rows.calendarNextRow.stops == []) = true := by kernel_rfl
theorem calendarNext_k6 : (Try.pinned.checked.prog.stops == []) = true := by kernel_rfl
theorem calendarNext_k7 : (Rows.calendarNextRow.knobs == []) = true := by kernel_rfl
theorem calendarNext_k8 : (Try.pinned.checked.prog.stopKnobs == []) = true := by kernel_rfl
theorem calendarNext_k9 : (Rows.calendarNextRow.inPlace == Try.pinned.checked.prog.inPlace 5) = true := by kernel_rfl
theorem calendarNext_k10 : (Rows.calendarNextRow.unfollowed == Try.pinned.checked.prog.unfollowed 5) = true := by kernel_rfl
theorem calendarNext_k11 : (Rows.calendarNextRow.recurses == Try.pinned.checked.prog.recurses 5) = true := by kernel_rfl
theorem calendarNext_k12 : (Rows.calendarNextRow.named == Try.pinned.checked.prog.varsNamed 5) = true := by kernel_rfl
theorem calendarNext_k13 : (Rows.calendarNextRow.maps == (Try.f5.params.toList ++ Rows.calendarNextSpec.plain.varTypes Try.pinned.checked.prog).any (Try.pinned.checked.prog.mapsRec ·)) = true := by kernel_rfl
theorem calendarNext_k14 : (Rows.calendarNextRow.ifaces == (Try.f5.params.toList ++ Rows.calendarNextSpec.plain.varTypes Try.pinned.checked.prog).any (Try.pinned.checked.prog.ifacesRec ·)) = true := by kernel_rfl
theorem calendarNext_k15 : (Rows.calendarNextRow.mapsOut == Try.pinned.checked.prog.mapsAmong Try.f5.resultTypes.toList) = true := by kernel_rfl
theorem calendarNext_k16 : (Rows.calendarNextRow.loops == (Try.f5.params.toList ++ Rows.calendarNextSpec.plain.varTypes Try.pinned.checked.prog).any (Try.pinned.checked.prog.loopsFrom ·)) = true := by kernel_rfl
theorem calendarNext_k17 : (Rows.calendarNextRow.wideKeys == (Try.f5.params.toList ++ Rows.calendarNextSpec.plain.varTypes Try.pinned.checked.prog ++ Try.f5.resultTypes.toList).any (Try.pinned.checked.prog.wideKeysFrom ·)) = true := by kernel_rfl
theorem calendarNext_k18 : (Rows.calendarNextSpec.vars.all (Try.pinned.checked.prog.varReadable ·)) = true := by kernel_rfl
theorem calendarNext_k19 : (Try.f5.resultTypes.all (fun t => Try.pinned.checked.prog.readableRec t && decide (t < Try.pinned.checked.prog.types.size))) = true := by kernel_rfl
theorem calendarNext_k20 : (Rows.calendarNextRow.ifacesOut == Try.f5.resultTypes.toList.any (Try.pinned.checked.prog.ifacesRec ·)) = true := by kernel_rfl
theorem calendarNext_k21 : (Rows.calendarNextRow.loopsOut == Try.f5.resultTypes.toList.any (Try.pinned.checked.prog.loopsFrom ·)) = true := by kernel_rfl
theorem calendarNext_k22 : (Rows.calendarNextRow.plainKeys == Try.pinned.checked.prog.plainKeys) = true := by kernel_rfl
theorem calendarNext_k23 : (Rows.calendarNextRow.shortTexts.isNone) = true := by kernel_rfl
theorem calendarNext_k24 : (Try.pinned.checked.prog.stopsHeard) = true := by kernel_rfl
theorem calendarNext_k25 : (Try.pinned.checked.prog.mayEnter) = true := by kernel_rfl
theorem calendarNext_k26 : (Rows.calendarNextRow.lifted == Try.pinned.checked.prog.liftsFinal) = true := by kernel_rfl
theorem calendarNext_k27 : (Try.pinned.checked.prog.make == some Rows.calendarNextRow.make) = true := by kernel_rfl
theorem calendarNext_k28 : (Rows.calendarNextRow.kinds == (if Rows.calendarNextRow.domain.isEmpty then [] else Try.f5.params.toList.map fun t => match Try.pinned.checked.prog.underlying t with | some (.int k) => some k | _ => none)) = true := by kernel_rfl
theorem calendarNext_k29 : (Rows.calendarNextRow.pinned == Rows.calendarNextRow.pinnedBy) = true := by kernel_rfl
theorem calendarNext_k30 : (Rows.calendarNextRow.veiled == (Try.f5.params.toList ++ Rows.calendarNextSpec.plain.varTypes Try.pinned.checked.prog ++ Try.f5.resultTypes.toList).any (Try.pinned.checked.prog.veiledRec ·)) = true := by kernel_rfl
theorem calendarNext_k31 : (Rows.calendarNextRow.veiledFits Try.pinned.checked.prog Try.f5.params.toList (Try.f5.params.toList ++ Rows.calendarNextSpec.plain.varTypes Try.pinned.checked.prog ++ Try.f5.resultTypes.toList)) = true := by kernel_rfl
set_option maxRecDepth 100000 in
theorem calendarNext_closed : joinedFacts Try.pinned.checked.prog 5 Try.f5 Rows.calendarNextSpec Rows.calendarNextRow = true := by
  simp only [joinedFacts, Bool.and_eq_true]
  exact ⟨⟨⟨⟨⟨⟨⟨⟨⟨⟨⟨⟨⟨⟨⟨⟨⟨⟨⟨⟨⟨⟨⟨⟨⟨⟨⟨⟨⟨⟨⟨calendarNext_k0, calendarNext_k1⟩, calendarNext_k2⟩, calendarNext_k3⟩, calendarNext_k4⟩, calendarNext_k5⟩, calendarNext_k6⟩, calendarNext_k7⟩, calendarNext_k8⟩, calendarNext_k9⟩, calendarNext_k10⟩, calendarNext_k11⟩, calendarNext_k12⟩, calendarNext_k13⟩, calendarNext_k14⟩, calendarNext_k15⟩, calendarNext_k16⟩, calendarNext_k17⟩, calendarNext_k18⟩, calendarNext_k19⟩, calendarNext_k20⟩, calendarNext_k21⟩, calendarNext_k22⟩, calendarNext_k23⟩, calendarNext_k24⟩, calendarNext_k25⟩, calendarNext_k26⟩, calendarNext_k27⟩, calendarNext_k28⟩, calendarNext_k29⟩, calendarNext_k30⟩, calendarNext_k31⟩

theorem calendarNext_holds : Rows.CalendarNextSaid :=
  OpenClaim.holds_of_wide 5 Try.f5 rfl rfl rfl rfl rfl rfl rfl ⟨rfl, rfl, rfl, rfl, rfl⟩ rfl rfl rfl rfl rfl (by kernel_rfl) Try.func5 calendarNext_closed
    (of_decide_eq_true (by kernel_rfl)) (by unfold Func.isWrapper; first | (rw [if_pos (by decide +kernel)]; kernel_rfl) | (rw [if_neg (by decide +kernel)]; exact ⟨rfl, rfl⟩))
    (fun os started H enc _ => calendarNext_lifted os started H enc)

end Go.Proofs.Ytfmbekdhkilflaa
