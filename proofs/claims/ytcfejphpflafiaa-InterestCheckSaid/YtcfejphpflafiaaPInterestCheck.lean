/-
  InterestCheck: for every input the law returns true: Check agrees with the definition for arbitrary steps. No condition.
-/
import Derived.Test.YtcfejphpflafiaaIA0
import Derived.Test.YtcfejphpflafiaaFrameS
namespace Go.Proofs.Ytcfejphpflafiaa
open Go.RowKit Nd
open Go.ChangeShapes Go.WideShapes Go.ChangeAt
open Go.ChangeMaps (open_string shut_string)

set_option maxRecDepth 100000 in
theorem interestCheck_lifted (os : Os) (started : os.Started) (H : Type) (enc : TypeId × Value → H) :
    ReturnsInHanded {} Try.checked os 3 .any (Rows.interestCheckSpec.pre6 enc Try.prog Try.f3 [] false) (Rows.interestCheckSpec.post enc Try.prog Try.f3 false true false false) := by
  refine returnsInHanded_of_change (C := Try.checked) own started (by kernel_rfl) Try.func3
    (ChangeSpec.witness6 (enc := enc) (C := Try.checked) false ⟨#[], #[.slice none 0 0], []⟩ 8 (by kernel_rfl) (by kernel_rfl) (by kernel_rfl) (by kernel_rfl)) ?_
  intro W base args ds gs before hval0 hW _ _
  have hval : ∀ (j : Nat) t v, Try.f3.params[j]? = some t → args[j]? = some v → Value.okWide Try.prog W .any base t v := hval0
  have hW' := hW
  obtain ⟨p, q, hA0, hV, rfl, _, _⟩ := hW
  have hA : DataW.TrodAll enc Try.prog W 0 (fun _ => true) true Try.f3.params.toList args.toList ds p := hA0
  rw [Try.params3] at hA hval
  obtain ⟨v0, d0, rfl, rfl, h0⟩ := trodAll_one hA
  obtain ⟨rfl, rfl⟩ := trodVars_none hV
  obtain ⟨A0, cap0, a0, rfl, b0, c0, e0⟩ := open_steps (hval 0 22 v0 rfl rfl) h0
  simp only [List.append_nil] at hW'
  refine (lcheck_any a0 _ A0 cap0 W rfl e0).mono fun e W' ⟨he, hch⟩ => ?_
  subst he
  exact ⟨_, rfl, _, _, _, [], _, [], hW', trodAll_mk1 (shut_bool Try.underlying4 _), args_again (by rw [Try.params3]; exact of_decide_eq_true (by kernel_rfl)) hA0 hch.below, rfl, hch.below.frame _, fun h => by cases h⟩

theorem interestCheck_k0 : (Rows.interestCheckRow.wf (OpenSpec.ofChange Rows.interestCheckSpec)) = true := by kernel_rfl
theorem interestCheck_k1 : (laidOutB Try.pinned.checked.prog) = true := by kernel_rfl
theorem interestCheck_k2 : (mapsRowed Try.pinned.checked.prog) = true := by kernel_rfl
theorem interestCheck_k3 : (Try.f3.params.all (Try.pinned.checked.prog.readableRec ·)) = true := by kernel_rfl
theorem interestCheck_k4 : (namedTie Try.pinned.checked.prog Rows.interestCheckRow.named Rows.interestCheckSpec.vars) = true := by kernel_rfl
theorem interestCheck_k5 : (Rows.interestCheckRow.stops == []) = true := by kernel_rfl
theorem interestCheck_k6 : (Try.pinned.checked.prog.stops == []) = true := by kernel_rfl
theorem interestCheck_k7 : (Rows.interestCheckRow.knobs == []) = true := by kernel_rfl
theorem interestCheck_k8 : (Try.pinned.checked.prog.stopKnobs == []) = true := by kernel_rfl
theorem interestCheck_k9 : (Rows.interestCheckRow.inPlace == Try.pinned.checked.prog.inPlace 3) = true := by kernel_rfl
theorem interestCheck_k10 : (Rows.interestCheckRow.unfollowed == Try.pinned.checked.prog.unfollowed 3) = true := by kernel_rfl
theorem interestCheck_k11 : (Rows.interestCheckRow.recurses == Try.pinned.checked.prog.recurses 3) = true := by kernel_rfl
theorem interestCheck_k12 : (Rows.interestCheckRow.named == Try.pinned.checked.prog.varsNamed 3) = true := by kernel_rfl
theorem interestCheck_k13 : (Rows.interestCheckRow.maps == (Try.f3.params.toList ++ Rows.interestCheckSpec.plain.varTypes Try.pinned.checked.prog).any (Try.pinned.checked.prog.mapsRec ·)) = true := by kernel_rfl
theorem interestCheck_k14 : (Rows.interestCheckRow.ifaces == (Try.f3.params.toList ++ Rows.interestCheckSpec.plain.varTypes Try.pinned.checked.prog).any (Try.pinned.checked.prog.ifacesRec ·)) = true := by kernel_rfl
theorem interestCheck_k15 : (Rows.interestCheckRow.mapsOut == Try.pinned.checked.prog.mapsAmong Try.f3.resultTypes.toList) = true := by kernel_rfl
theorem interestCheck_k16 : (Rows.interestCheckRow.loops == (Try.f3.params.toList ++ Rows.interestCheckSpec.plain.varTypes Try.pinned.checked.prog).any (Try.pinned.checked.prog.loopsFrom ·)) = true := by kernel_rfl
theorem interestCheck_k17 : (Rows.interestCheckRow.wideKeys == (Try.f3.params.toList ++ Rows.interestCheckSpec.plain.varTypes Try.pinned.checked.prog ++ Try.f3.resultTypes.toList).any (Try.pinned.checked.prog.wideKeysFrom ·)) = true := by kernel_rfl
theorem interestCheck_k18 : (Rows.interestCheckSpec.vars.all (Try.pinned.checked.prog.varReadable ·)) = true := by kernel_rfl
theorem interestCheck_k19 : (Try.f3.resultTypes.all (fun t => Try.pinned.checked.prog.readableRec t && decide (t < Try.pinned.checked.prog.types.size))) = true := by kernel_rfl
theorem interestCheck_k20 : (Rows.interestCheckRow.ifacesOut == Try.f3.resultTypes.toList.any (Try.pinned.checked.prog.ifacesRec ·)) = true := by kernel_rfl
theorem interestCheck_k21 : (Rows.interestCheckRow.loopsOut == Try.f3.resultTypes.toList.any (Try.pinned.checked.prog.loopsFrom ·)) = true := by kernel_rfl
theorem interestCheck_k22 : (Rows.interestCheckRow.plainKeys == Try.pinned.checked.prog.plainKeys) = true := by kernel_rfl
theorem interestCheck_k23 : (Rows.interestCheckRow.shortTexts.isNone) = true := by kernel_rfl
theorem interestCheck_k24 : (Try.pinned.checked.prog.stopsHeard) = true := by kernel_rfl
theorem interestCheck_k25 : (Try.pinned.checked.prog.mayEnter) = true := by kernel_rfl
theorem interestCheck_k26 : (Rows.interestCheckRow.lifted == Try.pinned.checked.prog.liftsFinal) = true := by kernel_rfl
theorem interestCheck_k27 : (Try.pinned.checked.prog.make == some Rows.interestCheckRow.make) = true := by kernel_rfl
theorem interestCheck_k28 : (Rows.interestCheckRow.kinds == (if Rows.interestCheckRow.domain.isEmpty then [] else Try.f3.params.toList.map fun t => match Try.pinned.checked.prog.underlying t with | some (.int k) => some k | _ => none)) = true := by kernel_rfl
theorem interestCheck_k29 : (Rows.interestCheckRow.pinned == Rows.interestCheckRow.pinnedBy) = true := by kernel_rfl
theorem interestCheck_k30 : (Rows.interestCheckRow.veiled == (Try.f3.params.toList ++ Rows.interestCheckSpec.plain.varTypes Try.pinned.checked.prog ++ Try.f3.resultTypes.toList).any (Try.pinned.checked.prog.veiledRec ·)) = true := by kernel_rfl
theorem interestCheck_k31 : (Rows.interestCheckRow.veiledFits Try.pinned.checked.prog Try.f3.params.toList (Try.f3.params.toList ++ Rows.interestCheckSpec.plain.varTypes Try.pinned.checked.prog ++ Try.f3.resultTypes.toList)) = true := by kernel_rfl
set_option maxRecDepth 100000 in
theorem interestCheck_closed : joinedFacts Try.pinned.checked.prog 3 Try.f3 Rows.interestCheckSpec Rows.interestCheckRow = true := by
  simp only [joinedFacts, Bool.and_eq_true]
  exact ⟨⟨⟨⟨⟨⟨⟨⟨⟨⟨⟨⟨⟨⟨⟨⟨⟨⟨⟨⟨⟨⟨⟨⟨⟨⟨⟨⟨⟨⟨⟨interestCheck_k0, interestCheck_k1⟩, interestCheck_k2⟩, interestCheck_k3⟩, interestCheck_k4⟩, interestCheck_k5⟩, interestCheck_k6⟩, interestCheck_k7⟩, interestCheck_k8⟩, interestCheck_k9⟩, interestCheck_k10⟩, interestCheck_k11⟩, interestCheck_k12⟩, interestCheck_k13⟩, interestCheck_k14⟩, interestCheck_k15⟩, interestCheck_k16⟩, interestCheck_k17⟩, interestCheck_k18⟩, interestCheck_k19⟩, interestCheck_k20⟩, interestCheck_k21⟩, interestCheck_k22⟩, interestCheck_k23⟩, interestCheck_k24⟩, interestCheck_k25⟩, interestCheck_k26⟩, interestCheck_k27⟩, interestCheck_k28⟩, interestCheck_k29⟩, interestCheck_k30⟩, interestCheck_k31⟩

theorem interestCheck_holds : Rows.InterestCheckSaid :=
  OpenClaim.holds_of_wide 3 Try.f3 rfl rfl rfl rfl rfl rfl rfl ⟨rfl, rfl, rfl, rfl, rfl⟩ rfl rfl rfl rfl rfl (by kernel_rfl) Try.func3 interestCheck_closed
    (of_decide_eq_true (by kernel_rfl)) (by unfold Func.isWrapper; first | (rw [if_pos (by decide +kernel)]; kernel_rfl) | (rw [if_neg (by decide +kernel)]; exact ⟨rfl, rfl⟩))
    (fun os started H enc _ => interestCheck_lifted os started H enc)

end Go.Proofs.Ytcfejphpflafiaa
