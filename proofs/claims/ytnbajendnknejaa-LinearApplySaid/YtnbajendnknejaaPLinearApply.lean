/-
  LinearApply: for every input the law returns true: Apply agrees with the definition for arbitrary matrices and vectors. No condition.
-/
import Derived.Test.YtnbajendnknejaaLA20
import Derived.Test.YtnbajendnknejaaFrame4
namespace Go.Proofs.Ytnbajendnknejaa
open Go.RowKit Nd
open Go.ChangeShapes Go.WideShapes Go.ChangeAt
open Go.ChangeMaps (open_string shut_string)

set_option maxRecDepth 100000 in
theorem linearApply_lifted (os : Os) (started : os.Started) (H : Type) (enc : TypeId × Value → H) :
    ReturnsInHanded {} Try.checked os 3 .any (Rows.linearApplySpec.pre6 enc Try.prog Try.f3 [] false) (Rows.linearApplySpec.post enc Try.prog Try.f3 false true false false) := by
  refine returnsInHanded_of_change (C := Try.checked) own started (by kernel_rfl) Try.func3
    (ChangeSpec.witness6 (enc := enc) (C := Try.checked) false ⟨#[], #[.slice none 0 0, .slice none 0 0], []⟩ 8 (by kernel_rfl) (by kernel_rfl) (by kernel_rfl) (by kernel_rfl)) ?_
  intro W base args ds gs before hval0 hW _ _
  have hval : ∀ (j : Nat) t v, Try.f3.params[j]? = some t → args[j]? = some v → Value.okWide Try.prog W .any base t v := hval0
  have hW' := hW
  obtain ⟨p, q, hA0, hV, rfl, _, _⟩ := hW
  have hA : DataW.TrodAll enc Try.prog W 0 (fun _ => true) true Try.f3.params.toList args.toList ds p := hA0
  rw [Try.params3] at hA hval
  obtain ⟨v0, v1, d0, d1, p0, p1, rfl, rfl, rfl, h0, h1⟩ := trodAll_two hA
  obtain ⟨rfl, rfl⟩ := trodVars_none hV
  obtain ⟨A0, cap0, a0, rfl, b0, c0, e0⟩ := open_mat (hval 0 22 v0 rfl rfl) h0
  obtain ⟨A1, cap1, a1, rfl, b1, c1, e1⟩ := open_list (hval 1 23 v1 rfl rfl) h1
  simp only [List.append_nil] at hW'
  refine (lapply_any a0 a1 A0 A1 cap0 cap1 W e0 e1).mono fun e W' ⟨he, hch⟩ => ?_
  subst he
  exact ⟨_, rfl, _, _, _, [], _, [], hW', trodAll_mk1 (shut_bool Try.underlying4 _), args_again (by rw [Try.params3]; exact of_decide_eq_true (by kernel_rfl)) hA0 hch.below, rfl, hch.below.frame _, fun h => by cases h⟩

theorem linearApply_k0 : (Rows.linearApplyRow.wf (OpenSpec.ofChange Rows.linearApplySpec)) = true := by kernel_rfl
theorem linearApply_k1 : (laidOutB Try.pinned.checked.prog) = true := by kernel_rfl
theorem linearApply_k2 : (mapsRowed Try.pinned.checked.prog) = true := by kernel_rfl
theorem linearApply_k3 : (Try.f3.params.all (Try.pinned.checked.prog.readableRec ·)) = true := by kernel_rfl
theorem linearApply_k4 : (namedTie Try.pinned.checked.prog Rows.linearApplyRow.named Rows.linearApplySpec.vars) = true := by kernel_rfl
theorem linearApply_k5 : (Rows.linearApplyRow.stops == []) = true := by kernel_rfl
theorem linearApply_k6 : (Try.pinned.checked.prog.stops == []) = true := by kernel_rfl
theorem linearApply_k7 : (Rows.linearApplyRow.knobs == []) = true := by kernel_rfl
theorem linearApply_k8 : (Try.pinned.checked.prog.stopKnobs == []) = true := by kernel_rfl
theorem linearApply_k9 : (Rows.linearApplyRow.inPlace == Try.pinned.checked.prog.inPlace 3) = true := by kernel_rfl
theorem linearApply_k10 : (Rows.linearApplyRow.unfollowed == Try.pinned.checked.prog.unfollowed 3) = true := by kernel_rfl
theorem linearApply_k11 : (Rows.linearApplyRow.recurses == Try.pinned.checked.prog.recurses 3) = true := by kernel_rfl
theorem linearApply_k12 : (Rows.linearApplyRow.named == Try.pinned.checked.prog.varsNamed 3) = true := by kernel_rfl
theorem linearApply_k13 : (Rows.linearApplyRow.maps == (Try.f3.params.toList ++ Rows.linearApplySpec.plain.varTypes Try.pinned.checked.prog).any (Try.pinned.checked.prog.mapsRec ·)) = true := by kernel_rfl
theorem linearApply_k14 : (Rows.linearApplyRow.ifaces == (Try.f3.params.toList ++ Rows.linearApplySpec.plain.varTypes Try.pinned.checked.prog).any (Try.pinned.checked.prog.ifacesRec ·)) = true := by kernel_rfl
theorem linearApply_k15 : (Rows.linearApplyRow.mapsOut == Try.pinned.checked.prog.mapsAmong Try.f3.resultTypes.toList) = true := by kernel_rfl
theorem linearApply_k16 : (Rows.linearApplyRow.loops == (Try.f3.params.toList ++ Rows.linearApplySpec.plain.varTypes Try.pinned.checked.prog).any (Try.pinned.checked.prog.loopsFrom ·)) = true := by kernel_rfl
theorem linearApply_k17 : (Rows.linearApplyRow.wideKeys == (Try.f3.params.toList ++ Rows.linearApplySpec.plain.varTypes Try.pinned.checked.prog ++ Try.f3.resultTypes.toList).any (Try.pinned.checked.prog.wideKeysFrom ·)) = true := by kernel_rfl
theorem linearApply_k18 : (Rows.linearApplySpec.vars.all (Try.pinned.checked.prog.varReadable ·)) = true := by kernel_rfl
theorem linearApply_k19 : (Try.f3.resultTypes.all (fun t => Try.pinned.checked.prog.readableRec t && decide (t < Try.pinned.checked.prog.types.size))) = true := by kernel_rfl
theorem linearApply_k20 : (Rows.linearApplyRow.ifacesOut == Try.f3.resultTypes.toList.any (Try.pinned.checked.prog.ifacesRec ·)) = true := by kernel_rfl
theorem linearApply_k21 : (Rows.linearApplyRow.loopsOut == Try.f3.resultTypes.toList.any (Try.pinned.checked.prog.loopsFrom ·)) = true := by kernel_rfl
theorem linearApply_k22 : (Rows.linearApplyRow.plainKeys == Try.pinned.checked.prog.plainKeys) = true := by kernel_rfl
theorem linearApply_k23 : (Rows.linearApplyRow.shortTexts.isNone) = true := by kernel_rfl
theorem linearApply_k24 : (Try.pinned.checked.prog.stopsHeard) = true := by kernel_rfl
theorem linearApply_k25 : (Try.pinned.checked.prog.mayEnter) = true := by kernel_rfl
theorem linearApply_k26 : (Rows.linearApplyRow.lifted == Try.pinned.checked.prog.liftsFinal) = true := by kernel_rfl
theorem linearApply_k27 : (Try.pinned.checked.prog.make == some Rows.linearApplyRow.make) = true := by kernel_rfl
theorem linearApply_k28 : (Rows.linearApplyRow.kinds == (if Rows.linearApplyRow.domain.isEmpty then [] else Try.f3.params.toList.map fun t => match Try.pinned.checked.prog.underlying t with | some (.int k) => some k | _ => none)) = true := by kernel_rfl
theorem linearApply_k29 : (Rows.linearApplyRow.pinned == Rows.linearApplyRow.pinnedBy) = true := by kernel_rfl
theorem linearApply_k30 : (Rows.linearApplyRow.veiled == (Try.f3.params.toList ++ Rows.linearApplySpec.plain.varTypes Try.pinned.checked.prog ++ Try.f3.resultTypes.toList).any (Try.pinned.checked.prog.veiledRec ·)) = true := by kernel_rfl
theorem linearApply_k31 : (Rows.linearApplyRow.veiledFits Try.pinned.checked.prog Try.f3.params.toList (Try.f3.params.toList ++ Rows.linearApplySpec.plain.varTypes Try.pinned.checked.prog ++ Try.f3.resultTypes.toList)) = true := by kernel_rfl
set_option maxRecDepth 100000 in
theorem linearApply_closed : joinedFacts Try.pinned.checked.prog 3 Try.f3 Rows.linearApplySpec Rows.linearApplyRow = true := by
  simp only [joinedFacts, Bool.and_eq_true]
  exact ⟨⟨⟨⟨⟨⟨⟨⟨⟨⟨⟨⟨⟨⟨⟨⟨⟨⟨⟨⟨⟨⟨⟨⟨⟨⟨⟨⟨⟨⟨⟨linearApply_k0, linearApply_k1⟩, linearApply_k2⟩, linearApply_k3⟩, linearApply_k4⟩, linearApply_k5⟩, linearApply_k6⟩, linearApply_k7⟩, linearApply_k8⟩, linearApply_k9⟩, linearApply_k10⟩, linearApply_k11⟩, linearApply_k12⟩, linearApply_k13⟩, linearApply_k14⟩, linearApply_k15⟩, linearApply_k16⟩, linearApply_k17⟩, linearApply_k18⟩, linearApply_k19⟩, linearApply_k20⟩, linearApply_k21⟩, linearApply_k22⟩, linearApply_k23⟩, linearApply_k24⟩, linearApply_k25⟩, linearApply_k26⟩, linearApply_k27⟩, linearApply_k28⟩, linearApply_k29⟩, linearApply_k30⟩, linearApply_k31⟩

theorem linearApply_holds : Rows.LinearApplySaid :=
  OpenClaim.holds_of_wide 3 Try.f3 rfl rfl rfl rfl rfl rfl rfl ⟨rfl, rfl, rfl, rfl, rfl⟩ rfl rfl rfl rfl rfl (by kernel_rfl) Try.func3 linearApply_closed
    (of_decide_eq_true (by kernel_rfl)) (by unfold Func.isWrapper; first | (rw [if_pos (by decide +kernel)]; kernel_rfl) | (rw [if_neg (by decide +kernel)]; exact ⟨rfl, rfl⟩))
    (fun os started H enc _ => linearApply_lifted os started H enc)

end Go.Proofs.Ytnbajendnknejaa
