/-
  CalendarCount: for every input the law returns true: Count agrees with the definition. No condition.
-/
import Derived.Test.YtfmbekdhkilflaaC10
import Derived.Test.YtfmbekdhkilflaaCF
namespace Go.Proofs.Ytfmbekdhkilflaa
open Go.RowKit
open Go.ChangeShapes Go.WideShapes Go.ChangeAt
open Go.ChangeMaps (open_string shut_string)

set_option maxRecDepth 100000 in
theorem calendarCount_lifted (os : Os) (started : os.Started) (H : Type) (enc : TypeId × Value → H) :
    ReturnsInHanded {} Try.checked os 7 .any (Rows.calendarCountSpec.pre6 enc Try.prog Try.f7 [] false) (Rows.calendarCountSpec.post enc Try.prog Try.f7 false true false false) := by
  refine returnsInHanded_of_change (C := Try.checked) own started (by kernel_rfl) Try.func7
    (ChangeSpec.witness6 (enc := enc) (C := Try.checked) false ⟨#[], #[.int .i64 0, .int .i64 0, .slice none 0 0], []⟩ 8 (by kernel_rfl) (by kernel_rfl) (by kernel_rfl) (by kernel_rfl)) ?_
  intro W base args ds gs before hval0 hW _ _
  have hval : ∀ (j : Nat) t v, Try.f7.params[j]? = some t → args[j]? = some v → Value.okWide Try.prog W .any base t v := hval0
  have hW' := hW
  obtain ⟨p, q, hA0, hV, rfl, _, _⟩ := hW
  have hA : DataW.TrodAll enc Try.prog W 0 (fun _ => true) true Try.f7.params.toList args.toList ds p := hA0
  rw [Try.params7] at hA hval
  obtain ⟨v0, v1, v2, d0, d1, d2, p0, p1, p2, rfl, rfl, rfl, h0, h1, h2⟩ := trodAll_three hA
  obtain ⟨rfl, rfl⟩ := trodVars_none hV
  obtain ⟨a0, rfl, rfl, rfl, b0⟩ := open_int Try.underlying3 (hval 0 3 v0 rfl rfl) h0
  obtain ⟨a1, rfl, rfl, rfl, b1⟩ := open_int Try.underlying3 (hval 1 3 v1 rfl rfl) h1
  obtain ⟨A2, cap2, a2, rfl, b2, c2, e2⟩ := open_zs (hval 2 25 v2 rfl rfl) h2
  simp only [List.append_nil] at hW'
  refine (lcount_any a0 a1 a2 _ A2 cap2 W (i64rng b0) (i64rng b1) rfl b2 c2 e2).mono fun e W' ⟨he, hch⟩ => ?_
  subst he
  exact ⟨_, rfl, _, _, _, [], _, [], hW', trodAll_mk1 (shut_bool Try.underlying4 _), args_again (by rw [Try.params7]; exact of_decide_eq_true (by kernel_rfl)) hA0 hch.below, rfl, hch.below.frame _, fun h => by cases h⟩

theorem calendarCount_k0 : (Rows.calendarCountRow.wf (OpenSpec.ofChange Rows.calendarCountSpec)) = true := by kernel_rfl
theorem calendarCount_k1 : (laidOutB Try.pinned.checked.prog) = true := by kernel_rfl
theorem calendarCount_k2 : (mapsRowed Try.pinned.checked.prog) = true := by kernel_rfl
theorem calendarCount_k3 : (Try.f7.params.all (Try.pinned.checked.prog.readableRec ·)) = true := by kernel_rfl
theorem calendarCount_k4 : (namedTie Try.pinned.checked.prog Rows.calendarCountRow.named Rows.calendarCountSpec.vars) = true := by kernel_rfl
theorem calendarCount_k5 : (Rows.calendarCountRow.stops == []) = true := by kernel_rfl
theorem calendarCount_k6 : (Try.pinned.checked.prog.stops == []) = true := by kernel_rfl
theorem calendarCount_k7 : (Rows.calendarCountRow.knobs == []) = true := by kernel_rfl
theorem calendarCount_k8 : (Try.pinned.checked.prog.stopKnobs == []) = true := by kernel_rfl
theorem calendarCount_k9 : (Rows.calendarCountRow.inPlace == Try.pinned.checked.prog.inPlace 7) = true := by kernel_rfl
theorem calendarCount_k10 : (Rows.calendarCountRow.unfollowed == Try.pinned.checked.prog.unfollowed 7) = true := by kernel_rfl
theorem calendarCount_k11 : (Rows.calendarCountRow.recurses == Try.pinned.checked.prog.recurses 7) = true := by kernel_rfl
theorem calendarCount_k12 : (Rows.calendarCountRow.named == Try.pinned.checked.prog.varsNamed 7) = true := by kernel_rfl
theorem calendarCount_k13 : (Rows.calendarCountRow.maps == (Try.f7.params.toList ++ Rows.calendarCountSpec.plain.varTypes Try.pinned.checked.prog).any (Try.pinned.checked.prog.mapsRec ·)) = true := by kernel_rfl
theorem calendarCount_k14 : (Rows.calendarCountRow.ifaces == (Try.f7.params.toList ++ Rows.calendarCountSpec.plain.varTypes Try.pinned.checked.prog).any (Try.pinned.checked.prog.ifacesRec ·)) = true := by kernel_rfl
theorem calendarCount_k15 : (Rows.calendarCountRow.mapsOut == Try.pinned.checked.prog.mapsAmong Try.f7.resultTypes.toList) = true := by kernel_rfl
theorem calendarCount_k16 : (Rows.calendarCountRow.loops == (Try.f7.params.toList ++ Rows.calendarCountSpec.plain.varTypes Try.pinned.checked.prog).any (Try.pinned.checked.prog.loopsFrom ·)) = true := by kernel_rfl
theorem calendarCount_k17 : (Rows.calendarCountRow.wideKeys == (Try.f7.params.toList ++ Rows.calendarCountSpec.plain.varTypes Try.pinned.checked.prog ++ Try.f7.resultTypes.toList).any (Try.pinned.checked.prog.wideKeysFrom ·)) = true := by kernel_rfl
theorem calendarCount_k18 : (Rows.calendarCountSpec.vars.all (Try.pinned.checked.prog.varReadable ·)) = true := by kernel_rfl
theorem calendarCount_k19 : (Try.f7.resultTypes.all (fun t => Try.pinned.checked.prog.readableRec t && decide (t < Try.pinned.checked.prog.types.size))) = true := by kernel_rfl
theorem calendarCount_k20 : (Rows.calendarCountRow.ifacesOut == Try.f7.resultTypes.toList.any (Try.pinned.checked.prog.ifacesRec ·)) = true := by kernel_rfl
theorem calendarCount_k21 : (Rows.calendarCountRow.loopsOut == Try.f7.resultTypes.toList.any (Try.pinned.checked.prog.loopsFrom ·)) = true := by kernel_rfl
theorem calendarCount_k22 : (Rows.calendarCountRow.plainKeys == Try.pinned.checked.prog.plainKeys) = true := by kernel_rfl
theorem calendarCount_k23 : (Rows.calendarCountRow.shortTexts.isNone) = true := by kernel_rfl
theorem calendarCount_k24 : (Try.pinned.checked.prog.stopsHeard) = true := by kernel_rfl
theorem calendarCount_k25 : (Try.pinned.checked.prog.mayEnter) = true := by kernel_rfl
theorem calendarCount_k26 : (Rows.calendarCountRow.lifted == Try.pinned.checked.prog.liftsFinal) = true := by kernel_rfl
theorem calendarCount_k27 : (Try.pinned.checked.prog.make == some Rows.calendarCountRow.make) = true := by kernel_rfl
theorem calendarCount_k28 : (Rows.calendarCountRow.kinds == (if Rows.calendarCountRow.domain.isEmpty then [] else Try.f7.params.toList.map fun t => match Try.pinned.checked.prog.underlying t with | some (.int k) => some k | _ => none)) = true := by kernel_rfl
theorem calendarCount_k29 : (Rows.calendarCountRow.pinned == Rows.calendarCountRow.pinnedBy) = true := by kernel_rfl
theorem calendarCount_k30 : (Rows.calendarCountRow.veiled == (Try.f7.params.toList ++ Rows.calendarCountSpec.plain.varTypes Try.pinned.checked.prog ++ Try.f7.resultTypes.toList).any (Try.pinned.checked.prog.veiledRec ·)) = true := by kernel_rfl
theorem calendarCount_k31 : (Rows.calendarCountRow.veiledFits Try.pinned.checked.prog Try.f7.params.toList (Try.f7.params.toList ++ Rows.calendarCountSpec.plain.varTypes Try.pinned.checked.prog ++ Try.f7.resultTypes.toList)) = true := by kernel_rfl
set_option maxRecDepth 100000 in
theorem calendarCount_closed : joinedFacts Try.pinned.checked.prog 7 Try.f7 Rows.calendarCountSpec Rows.calendarCountRow = true := by
  simp only [joinedFacts, Bool.and_eq_true]
  exact ⟨⟨⟨⟨⟨⟨⟨⟨⟨⟨⟨⟨⟨⟨⟨⟨⟨⟨⟨⟨⟨⟨⟨⟨⟨⟨⟨⟨⟨⟨⟨calendarCount_k0, calendarCount_k1⟩, calendarCount_k2⟩, calendarCount_k3⟩, calendarCount_k4⟩, calendarCount_k5⟩, calendarCount_k6⟩, calendarCount_k7⟩, calendarCount_k8⟩, calendarCount_k9⟩, calendarCount_k10⟩, calendarCount_k11⟩, calendarCount_k12⟩, calendarCount_k13⟩, calendarCount_k14⟩, calendarCount_k15⟩, calendarCount_k16⟩, calendarCount_k17⟩, calendarCount_k18⟩, calendarCount_k19⟩, calendarCount_k20⟩, calendarCount_k21⟩, calendarCount_k22⟩, calendarCount_k23⟩, calendarCount_k24⟩, calendarCount_k25⟩, calendarCount_k26⟩, calendarCount_k27⟩, calendarCount_k28⟩, calendarCount_k29⟩, calendarCount_k30⟩, calendarCount_k31⟩

theorem calendarCount_holds : Rows.CalendarCountSaid :=
  OpenClaim.holds_of_wide 7 Try.f7 rfl rfl rfl rfl rfl rfl rfl ⟨rfl, rfl, rfl, rfl, rfl⟩ rfl rfl rfl rfl rfl (by kernel_rfl) Try.func7 calendarCount_closed
    (of_decide_eq_true (by kernel_rfl)) (by unfold Func.isWrapper; first | (rw [if_pos (by decide +kernel)]; kernel_rfl) | (rw [if_neg (by decide +kernel)]; exact ⟨rfl, rfl⟩))
    (fun os started H enc _ => calendarCount_lifted os started H enc)

end Go.Proofs.Ytfmbekdhkilflaa
