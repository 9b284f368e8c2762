/-
  PartyCheck: for every input the law returns true: Check agrees with the definition for arbitrary parties. No condition.
-/
import Derived.Test.YtgdpcpbmjgaliaaPL2
import Derived.Test.YtgdpcpbmjgaliaaFrameP
namespace Go.Proofs.Ytgdpcpbmjgaliaa
open Go.RowKit Nd
open Go.ChangeShapes Go.WideShapes Go.ChangeAt
open Go.ChangeMaps (open_string shut_string)

set_option maxRecDepth 100000 in
theorem partyCheck_lifted (os : Os) (started : os.Started) (H : Type) (enc : TypeId × Value → H) :
    ReturnsInHanded {} Try.checked os 3 .any (Rows.partyCheckSpec.pre6 enc Try.prog Try.f3 [] false) (Rows.partyCheckSpec.post enc Try.prog Try.f3 false true false false) := by
  refine returnsInHanded_of_change (C := Try.checked) own started (by kernel_rfl) Try.func3
    (ChangeSpec.witness6 (enc := enc) (C := Try.checked) false ⟨#[], #[.agg #[.slice none 0 0, .slice none 0 0, .slice none 0 0]], []⟩ 8 (by kernel_rfl) (by kernel_rfl) (by kernel_rfl) (by kernel_rfl)) ?_
  intro W base args ds gs before hval0 hW _ _
  have hval : ∀ (j : Nat) t v, Try.f3.params[j]? = some t → args[j]? = some v → Value.okWide Try.prog W .any base t v := hval0
  have hW' := hW
  obtain ⟨p, q, hA0, hV, rfl, _, _⟩ := hW
  have hA : DataW.TrodAll enc Try.prog W 0 (fun _ => true) true Try.f3.params.toList args.toList ds p := hA0
  rw [Try.params3] at hA hval
  obtain ⟨v0, d0, rfl, rfl, h0⟩ := trodAll_one hA
  obtain ⟨rfl, rfl⟩ := trodVars_none hV
  obtain ⟨P0, rfl, a0⟩ := open_parties (hval 0 26 v0 rfl rfl) h0
  simp only [List.append_nil] at hW'
  refine (lpcheck_any P0 W a0).mono fun e W' ⟨he, hch⟩ => ?_
  subst he
  exact ⟨_, rfl, _, _, _, [], _, [], hW', trodAll_mk1 (shut_bool Try.underlying4 _), args_again (by rw [Try.params3]; exact of_decide_eq_true (by kernel_rfl)) hA0 hch.below, rfl, hch.below.frame _, fun h => by cases h⟩

theorem partyCheck_k0 : (Rows.partyCheckRow.wf (OpenSpec.ofChange Rows.partyCheckSpec)) = true := by kernel_rfl
theorem partyCheck_k1 : (laidOutB Try.pinned.checked.prog) = true := by kernel_rfl
theorem partyCheck_k2 : (mapsRowed Try.pinned.checked.prog) = true := by kernel_rfl
theorem partyCheck_k3 : (Try.f3.params.all (Try.pinned.checked.prog.readableRec ·)) = true := by kernel_rfl
theorem partyCheck_k4 : (namedTie Try.pinned.checked.prog Rows.partyCheckRow.named Rows.partyCheckSpec.vars) = true := by kernel_rfl
theorem partyCheck_k5 : (Rows.partyCheckRow.stops == []) = true := by kernel_rfl
theorem partyCheck_k6 : (Try.pinned.checked.prog.stops == []) = true := by kernel_rfl
theorem partyCheck_k7 : (Rows.partyCheckRow.knobs == []) = true := by kernel_rfl
theorem partyCheck_k8 : (Try.pinned.checked.prog.stopKnobs == []) = true := by kernel_rfl
theorem partyCheck_k9 : (Rows.partyCheckRow.inPlace == Try.pinned.checked.prog.inPlace 3) = true := by kernel_rfl
theorem partyCheck_k10 : (Rows.partyCheckRow.unfollowed == Try.pinned.checked.prog.unfollowed 3) = true := by kernel_rfl
theorem partyCheck_k11 : (Rows.partyCheckRow.recurses == Try.pinned.checked.prog.recurses 3) = true := by kernel_rfl
theorem partyCheck_k12 : (Rows.partyCheckRow.named == Try.pinned.checked.prog.varsNamed 3) = true := by kernel_rfl
theorem partyCheck_k13 : (Rows.partyCheckRow.maps == (Try.f3.params.toList ++ Rows.partyCheckSpec.plain.varTypes Try.pinned.checked.prog).any (Try.pinned.checked.prog.mapsRec ·)) = true := by kernel_rfl
theorem partyCheck_k14 : (Rows.partyCheckRow.ifaces == (Try.f3.params.toList ++ Rows.partyCheckSpec.plain.varTypes Try.pinned.checked.prog).any (Try.pinned.checked.prog.ifacesRec ·)) = true := by kernel_rfl
theorem partyCheck_k15 : (Rows.partyCheckRow.mapsOut == Try.pinned.checked.prog.mapsAmong Try.f3.resultTypes.toList) = true := by kernel_rfl
theorem partyCheck_k16 : (Rows.partyCheckRow.loops == (Try.f3.params.toList ++ Rows.partyCheckSpec.plain.varTypes Try.pinned.checked.prog).any (Try.pinned.checked.prog.loopsFrom ·)) = true := by kernel_rfl
theorem partyCheck_k17 : (Rows.partyCheckRow.wideKeys == (Try.f3.params.toList ++ Rows.partyCheckSpec.plain.varTypes Try.pinned.checked.prog ++ Try.f3.resultTypes.toList).any (Try.pinned.checked.prog.wideKeysFrom ·)) = true := by kernel_rfl
theorem partyCheck_k18 : (Rows.partyCheckSpec.vars.all (Try.pinned.checked.prog.varReadable ·)) = true := by kernel_rfl
theorem partyCheck_k19 : (Try.f3.resultTypes.all (fun t => Try.pinned.checked.prog.readableRec t && decide (t < Try.pinned.checked.prog.types.size))) = true := by kernel_rfl
theorem partyCheck_k20 : (Rows.partyCheckRow.ifacesOut == Try.f3.resultTypes.toList.any (Try.pinned.checked.prog.ifacesRec ·)) = true := by kernel_rfl
theorem partyCheck_k21 : (Rows.partyCheckRow.loopsOut == Try.f3.resultTypes.toList.any (Try.pinned.checked.prog.loopsFrom ·)) = true := by kernel_rfl
theorem partyCheck_k22 : (Rows.partyCheckRow.plainKeys == Try.pinned.checked.prog.plainKeys) = true := by kernel_rfl
theorem partyCheck_k23 : (Rows.partyCheckRow.shortTexts.isNone) = true := by kernel_rfl
theorem partyCheck_k24 : (Try.pinned.checked.prog.stopsHeard) = true := by kernel_rfl
theorem partyCheck_k25 : (Try.pinned.checked.prog.mayEnter) = true := by kernel_rfl
theorem partyCheck_k26 : (Rows.partyCheckRow.lifted == Try.pinned.checked.prog.liftsFinal) = true := by kernel_rfl
theorem partyCheck_k27 : (Try.pinned.checked.prog.make == some Rows.partyCheckRow.make) = true := by kernel_rfl
theorem partyCheck_k28 : (Rows.partyCheckRow.kinds == (if Rows.partyCheckRow.domain.isEmpty then [] else Try.f3.params.toList.map fun t => match Try.pinned.checked.prog.underlying t with | some (.int k) => some k | _ => none)) = true := by kernel_rfl
theorem partyCheck_k29 : (Rows.partyCheckRow.pinned == Rows.partyCheckRow.pinnedBy) = true := by kernel_rfl
theorem partyCheck_k30 : (Rows.partyCheckRow.veiled == (Try.f3.params.toList ++ Rows.partyCheckSpec.plain.varTypes Try.pinned.checked.prog ++ Try.f3.resultTypes.toList).any (Try.pinned.checked.prog.veiledRec ·)) = true := by kernel_rfl
theorem partyCheck_k31 : (Rows.partyCheckRow.veiledFits Try.pinned.checked.prog Try.f3.params.toList (Try.f3.params.toList ++ Rows.partyCheckSpec.plain.varTypes Try.pinned.checked.prog ++ Try.f3.resultTypes.toList)) = true := by kernel_rfl
set_option maxRecDepth 100000 in
theorem partyCheck_closed : joinedFacts Try.pinned.checked.prog 3 Try.f3 Rows.partyCheckSpec Rows.partyCheckRow = true := by
  simp only [joinedFacts, Bool.and_eq_true]
  exact ⟨⟨⟨⟨⟨⟨⟨⟨⟨⟨⟨⟨⟨⟨⟨⟨⟨⟨⟨⟨⟨⟨⟨⟨⟨⟨⟨⟨⟨⟨⟨partyCheck_k0, partyCheck_k1⟩, partyCheck_k2⟩, partyCheck_k3⟩, partyCheck_k4⟩, partyCheck_k5⟩, partyCheck_k6⟩, partyCheck_k7⟩, partyCheck_k8⟩, partyCheck_k9⟩, partyCheck_k10⟩, partyCheck_k11⟩, partyCheck_k12⟩, partyCheck_k13⟩, partyCheck_k14⟩, partyCheck_k15⟩, partyCheck_k16⟩, partyCheck_k17⟩, partyCheck_k18⟩, partyCheck_k19⟩, partyCheck_k20⟩, partyCheck_k21⟩, partyCheck_k22⟩, partyCheck_k23⟩, partyCheck_k24⟩, partyCheck_k25⟩, partyCheck_k26⟩, partyCheck_k27⟩, partyCheck_k28⟩, partyCheck_k29⟩, partyCheck_k30⟩, partyCheck_k31⟩

theorem partyCheck_holds : Rows.PartyCheckSaid :=
  OpenClaim.holds_of_wide 3 Try.f3 rfl rfl rfl rfl rfl rfl rfl ⟨rfl, rfl, rfl, rfl, rfl⟩ rfl rfl rfl rfl rfl (by kernel_rfl) Try.func3 partyCheck_closed
    (of_decide_eq_true (by kernel_rfl)) (by unfold Func.isWrapper; first | (rw [if_pos (by decide +kernel)]; kernel_rfl) | (rw [if_neg (by decide +kernel)]; exact ⟨rfl, rfl⟩))
    (fun os started H enc _ => partyCheck_lifted os started H enc)

end Go.Proofs.Ytgdpcpbmjgaliaa
