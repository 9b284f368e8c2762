/-
  CalendarAdd: for every input the law returns true: Add agrees with the definition. No condition.
-/
import Derived.Test.YtfmbekdhkilflaaC9
import Derived.Test.YtfmbekdhkilflaaCF
namespace Go.Proofs.Ytfmbekdhkilflaa
open Go.RowKit
open Go.ChangeShapes Go.WideShapes Go.ChangeAt
open Go.ChangeMaps (open_string shut_string)

set_option maxRecDepth 100000 in
theorem calendarAdd_lifted (os : Os) (started : os.Started) (H : Type) (enc : TypeId × Value → H) :
    ReturnsInHanded {} Try.checked os 6 .any (Rows.calendarAddSpec.pre6 enc Try.prog Try.f6 [] false) (Rows.calendarAddSpec.post enc Try.prog Try.f6 false true false false) := by
  refine returnsInHanded_of_change (C := Try.checked) own started (by kernel_rfl) Try.func6
    (ChangeSpec.witness6 (enc := enc) (C := Try.checked) false ⟨#[], #[.int .i64 0, .int .i64 0, .slice none 0 0], []⟩ 8 (by kernel_rfl) (by kernel_rfl) (by kernel_rfl) (by kernel_rfl)) ?_
  intro W base args ds gs before hval0 hW _ _
  have hval : ∀ (j : Nat) t v, Try.f6.params[j]? = some t → args[j]? = some v → Value.okWide Try.prog W .any base t v := hval0
  have hW' := hW
  obtain ⟨p, q, hA0, hV, rfl, _, _⟩ := hW
  have hA : DataW.TrodAll enc Try.prog W 0 (fun _ => true) true Try.f6.params.toList args.toList ds p := hA0
  rw [Try.params6] at hA hval
  obtain ⟨v0, v1, v2, d0, d1, d2, p0, p1, p2, rfl, rfl, rfl, h0, h1, h2⟩ := trodAll_three hA
  obtain ⟨rfl, rfl⟩ := trodVars_none hV
  obtain ⟨a0, rfl, rfl, rfl, b0⟩ := open_int Try.underlying3 (hval 0 3 v0 rfl rfl) h0
  obtain ⟨a1, rfl, rfl, rfl, b1⟩ := open_int Try.underlying3 (hval 1 3 v1 rfl rfl) h1
  obtain ⟨A2, cap2, a2, rfl, b2, c2, e2⟩ := open_zs (hval 2 25 v2 rfl rfl) h2
  simp only [List.append_nil] at hW'
  refine (ladd_any a0 a1 a2 _ A2 cap2 W (i64rng b0) (i64rng b1) rfl b2 c2 e2).mono fun e W' ⟨he, hch⟩ => ?_
  subst he
  exact ⟨_, rfl, _, _, _, [], _, [], hW', trodAll_mk1 (shut_bool Try.underlying4 _), args_again (by rw [Try.params6]; exact of_decide_eq_true (by kernel_rfl)) hA0 hch.below, rfl, hch.below.frame _, fun h => by cases h⟩

theorem calendarAdd_k0 : (Rows.calendarAddRow.wf (OpenSpec.ofChange Rows.calendarAddSpec)) = true := by kernel_rfl
theorem calendarAdd_k1 : (laidOutB Try.pinned.checked.prog) = true := by kernel_rfl
theorem calendarAdd_k2 : (mapsRowed Try.pinned.checked.prog) = true := by kernel_rfl
theorem calendarAdd_k3 : (Try.f6.params.all (Try.pinned.checked.prog.readableRec ·)) = true := by kernel_rfl
theorem calendarAdd_k4 : (namedTie Try.pinned.checked.prog Rows.calendarAddRow.named Rows.calendarAddSpec.vars) = true := by kernel_rfl
theorem calendarAdd_k5 : (Rows.calendarAddRow.stops == []) = true := by kernel_rfl
theorem calendarAdd_k6 : (Try.pinned.checked.prog.stops == []) = true := by kernel_rfl
theorem calendarAdd_k7 : (Rows.calendarAddRow.knobs == []) = true := by kernel_rfl
theorem calendarAdd_k8 : (Try.pinned.checked.prog.stopKnobs == []) = true := by kernel_rfl
theorem calendarAdd_k9 : (Rows.calendarAddRow.inPlace == Try.pinned.checked.prog.inPlace 6) = true := by kernel_rfl
theorem calendarAdd_k10 : (Rows.calendarAddRow.unfollowed == Try.pinned.checked.prog.unfollowed 6) = true := by kernel_rfl
theorem calendarAdd_k11 : (Rows.calendarAddRow.recurses == Try.pinned.checked.prog.recurses 6) = true := by kernel_rfl
theorem calendarAdd_k12 : (Rows.calendarAddRow.named == Try.pinned.checked.prog.varsNamed 6) = true := by kernel_rfl
theorem calendarAdd_k13 : (Rows.calendarAddRow.maps == (Try.f6.params.toList ++ Rows.calendarAddSpec.plain.varTypes Try.pinned.checked.prog).any (Try.pinned.checked.prog.mapsRec ·)) = true := by kernel_rfl
theorem calendarAdd_k14 : (Rows.calendarAddRow.ifaces == (Try.f6.params.toList ++ Rows.calendarAddSpec.plain.varTypes Try.pinned.checked.prog).any (Try.pinned.checked.prog.ifacesRec ·)) = true := by kernel_rfl
theorem calendarAdd_k15 : (Rows.calendarAddRow.mapsOut == Try.pinned.checked.prog.mapsAmong Try.f6.resultTypes.toList) = true := by kernel_rfl
theorem calendarAdd_k16 : (Rows.calendarAddRow.loops == (Try.f6.params.toList ++ Rows.calendarAddSpec.plain.varTypes Try.pinned.checked.prog).any (Try.pinned.checked.prog.loopsFrom ·)) = true := by kernel_rfl
theorem calendarAdd_k17 : (Rows.calendarAddRow.wideKeys == (Try.f6.params.toList ++ Rows.calendarAddSpec.plain.varTypes Try.pinned.checked.prog ++ Try.f6.resultTypes.toList).any (Try.pinned.checked.prog.wideKeysFrom ·)) = true := by kernel_rfl
theorem calendarAdd_k18 : (Rows.calendarAddSpec.vars.all (Try.pinned.checked.prog.varReadable ·)) = true := by kernel_rfl
theorem calendarAdd_k19 : (Try.f6.resultTypes.all (fun t => Try.pinned.checked.prog.readableRec t && decide (t < Try.pinned.checked.prog.types.size))) = true := by kernel_rfl
theorem calendarAdd_k20 : (Rows.calendarAddRow.ifacesOut == Try.f6.resultTypes.toList.any (Try.pinned.checked.prog.ifacesRec ·)) = true := by kernel_rfl
theorem calendarAdd_k21 : (Rows.calendarAddRow.loopsOut == Try.f6.resultTypes.toList.any (Try.pinned.checked.prog.loopsFrom ·)) = true := by kernel_rfl
theorem calendarAdd_k22 : (Rows.calendarAddRow.plainKeys == Try.pinned.checked.prog.plainKeys) = true := by kernel_rfl
theorem calendarAdd_k23 : (Rows.calendarAddRow.shortTexts.isNone) = true := by kernel_rfl
theorem calendarAdd_k24 : (Try.pinned.checked.prog.stopsHeard) = true := by kernel_rfl
theorem calendarAdd_k25 : (Try.pinned.checked.prog.mayEnter) = true := by kernel_rfl
theorem calendarAdd_k26 : (Rows.calendarAddRow.lifted == Try.pinned.checked.prog.liftsFinal) = true := by kernel_rfl
theorem calendarAdd_k27 : (Try.pinned.checked.prog.make == some Rows.calendarAddRow.make) = true := by kernel_rfl
theorem calendarAdd_k28 : (Rows.calendarAddRow.kinds == (if Rows.calendarAddRow.domain.isEmpty then [] else Try.f6.params.toList.map fun t => match Try.pinned.checked.prog.underlying t with | some (.int k) => some k | _ => none)) = true := by kernel_rfl
theorem calendarAdd_k29 : (Rows.calendarAddRow.pinned == Rows.calendarAddRow.pinnedBy) = true := by kernel_rfl
theorem calendarAdd_k30 : (Rows.calendarAddRow.veiled == (Try.f6.params.toList ++ Rows.calendarAddSpec.plain.varTypes Try.pinned.checked.prog ++ Try.f6.resultTypes.toList).any (Try.pinned.checked.prog.veiledRec ·)) = true := by kernel_rfl
theorem calendarAdd_k31 : (Rows.calendarAddRow.veiledFits Try.pinned.checked.prog Try.f6.params.toList (Try.f6.params.toList ++ Rows.calendarAddSpec.plain.varTypes Try.pinned.checked.prog ++ Try.f6.resultTypes.toList)) = true := by kernel_rfl
set_option maxRecDepth 100000 in
theorem calendarAdd_closed : joinedFacts Try.pinned.checked.prog 6 Try.f6 Rows.calendarAddSpec Rows.calendarAddRow = true := by
  simp only [joinedFacts, Bool.and_eq_true]
  exact ⟨⟨⟨⟨⟨⟨⟨⟨⟨⟨⟨⟨⟨⟨⟨⟨⟨⟨⟨⟨⟨⟨⟨⟨⟨⟨⟨⟨⟨⟨⟨calendarAdd_k0, calendarAdd_k1⟩, calendarAdd_k2⟩, calendarAdd_k3⟩, calendarAdd_k4⟩, calendarAdd_k5⟩, calendarAdd_k6⟩, calendarAdd_k7⟩, calendarAdd_k8⟩, calendarAdd_k9⟩, calendarAdd_k10⟩, calendarAdd_k11⟩, calendarAdd_k12⟩, calendarAdd_k13⟩, calendarAdd_k14⟩, calendarAdd_k15⟩, calendarAdd_k16⟩, calendarAdd_k17⟩, calendarAdd_k18⟩, calendarAdd_k19⟩, calendarAdd_k20⟩, calendarAdd_k21⟩, calendarAdd_k22⟩, calendarAdd_k23⟩, calendarAdd_k24⟩, calendarAdd_k25⟩, calendarAdd_k26⟩, calendarAdd_k27⟩, calendarAdd_k28⟩, calendarAdd_k29⟩, calendarAdd_k30⟩, calendarAdd_k31⟩

theorem calendarAdd_holds : Rows.CalendarAddSaid :=
  OpenClaim.holds_of_wide 6 Try.f6 rfl rfl rfl rfl rfl rfl rfl ⟨rfl, rfl, rfl, rfl, rfl⟩ rfl rfl rfl rfl rfl (by kernel_rfl) Try.func6 calendarAdd_closed
    (of_decide_eq_true (by kernel_rfl)) (by unfold Func.isWrapper; first | (rw [if_pos (by decide +kernel)]; kernel_rfl) | (rw [if_neg (by decide +kernel)]; exact ⟨rfl, rfl⟩))
    (fun os started H enc _ => calendarAdd_lifted os started H enc)

end Go.Proofs.Ytfmbekdhkilflaa
