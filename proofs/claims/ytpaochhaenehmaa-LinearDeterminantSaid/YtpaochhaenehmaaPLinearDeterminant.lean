/-
  LinearDeterminant: for every input the law returns true: Determinant agrees with the definition for arbitrary matrices. No condition.
-/
import Derived.Test.YtpaochhaenehmaaLA27
import Derived.Test.YtpaochhaenehmaaFrame4
namespace Go.Proofs.Ytpaochhaenehmaa
open Go.RowKit Nd
open Go.ChangeShapes Go.WideShapes Go.ChangeAt
open Go.ChangeMaps (open_string shut_string)

set_option maxRecDepth 100000 in
theorem linearDeterminant_lifted (os : Os) (started : os.Started) (H : Type) (enc : TypeId × Value → H) :
    ReturnsInHanded {} Try.checked os 3 .any (Rows.linearDeterminantSpec.pre6 enc Try.prog Try.f3 [] false) (Rows.linearDeterminantSpec.post enc Try.prog Try.f3 false true false false) := by
  refine returnsInHanded_of_change (C := Try.checked) own started (by kernel_rfl) Try.func3
    (ChangeSpec.witness6 (enc := enc) (C := Try.checked) false ⟨#[], #[.slice none 0 0], []⟩ 8 (by kernel_rfl) (by kernel_rfl) (by kernel_rfl) (by kernel_rfl)) ?_
  intro W base args ds gs before hval0 hW _ _
  have hval : ∀ (j : Nat) t v, Try.f3.params[j]? = some t → args[j]? = some v → Value.okWide Try.prog W .any base t v := hval0
  have hW' := hW
  obtain ⟨p, q, hA0, hV, rfl, _, _⟩ := hW
  have hA : DataW.TrodAll enc Try.prog W 0 (fun _ => true) true Try.f3.params.toList args.toList ds p := hA0
  rw [Try.params3] at hA hval
  obtain ⟨v0, d0, rfl, rfl, h0⟩ := trodAll_one hA
  obtain ⟨rfl, rfl⟩ := trodVars_none hV
  obtain ⟨A0, cap0, a0, rfl, b0, c0, e0⟩ := open_mat (hval 0 22 v0 rfl rfl) h0
  simp only [List.append_nil] at hW'
  refine (ldeterminant_any a0 A0 cap0 W e0).mono fun e W' ⟨he, hch⟩ => ?_
  subst he
  exact ⟨_, rfl, _, _, _, [], _, [], hW', trodAll_mk1 (shut_bool Try.underlying4 _), args_again (by rw [Try.params3]; exact of_decide_eq_true (by kernel_rfl)) hA0 hch.below, rfl, hch.below.frame _, fun h => by cases h⟩

theorem linearDeterminant_k0 : (Rows.linearDeterminantRow.wf (OpenSpec.ofChange Rows.linearDeterminantSpec)) = true := by kernel_rfl
theorem linearDeterminant_k1 : (laidOutB Try.pinned.checked.prog) = true := by kernel_rfl
theorem linearDeterminant_k2 : (mapsRowed Try.pinned.checked.prog) = true := by kernel_rfl
theorem linearDeterminant_k3 : (Try.f3.params.all (Try.pinned.checked.prog.readableRec ·)) = true := by kernel_rfl
theorem linearDeterminant_k4 : (namedTie Try.pinned.checked.prog Rows.linearDeterminantRow.named Rows.linearDeterminantSpec.vars) = true := by kernel_rfl
theorem linearDeterminant_k5 : (Rows.linearDeterminantRow.stops == []) = true := by kernel_rfl
theorem linearDeterminant_k6 : (Try.pinned.checked.prog.stops == []) = true := by kernel_rfl
theorem linearDeterminant_k7 : (Rows.linearDeterminantRow.knobs == []) = true := by kernel_rfl
theorem linearDeterminant_k8 : (Try.pinned.checked.prog.stopKnobs == []) = true := by kernel_rfl
theorem linearDeterminant_k9 : (Rows.linearDeterminantRow.inPlace == Try.pinned.checked.prog.inPlace 3) = true := by kernel_rfl
theorem linearDeterminant_k10 : (Rows.linearDeterminantRow.unfollowed == Try.pinned.checked.prog.unfollowed 3) = true := by kernel_rfl
theorem linearDeterminant_k11 : (Rows.linearDeterminantRow.recurses == Try.pinned.checked.prog.recurses 3) = true := by kernel_rfl
theorem linearDeterminant_k12 : (Rows.linearDeterminantRow.named == Try.pinned.checked.prog.varsNamed 3) = true := by kernel_rfl
theorem linearDeterminant_k13 : (Rows.linearDeterminantRow.maps == (Try.f3.params.toList ++ Rows.linearDeterminantSpec.plain.varTypes Try.pinned.checked.prog).any (Try.pinned.checked.prog.mapsRec ·)) = true := by kernel_rfl
theorem linearDeterminant_k14 : (Rows.linearDeterminantRow.ifaces == (Try.f3.params.toList ++ Rows.linearDeterminantSpec.plain.varTypes Try.pinned.checked.prog).any (Try.pinned.checked.prog.ifacesRec ·)) = true := by kernel_rfl
theorem linearDeterminant_k15 : (Rows.linearDeterminantRow.mapsOut == Try.pinned.checked.prog.mapsAmong Try.f3.resultTypes.toList) = true := by kernel_rfl
theorem linearDeterminant_k16 : (Rows.linearDeterminantRow.loops == (Try.f3.params.toList ++ Rows.linearDeterminantSpec.plain.varTypes Try.pinned.checked.prog).any (Try.pinned.checked.prog.loopsFrom ·)) = true := by kernel_rfl
theorem linearDeterminant_k17 : (Rows.linearDeterminantRow.wideKeys == (Try.f3.params.toList ++ Rows.linearDeterminantSpec.plain.varTypes Try.pinned.checked.prog ++ Try.f3.resultTypes.toList).any (Try.pinned.checked.prog.wideKeysFrom ·)) = true := by kernel_rfl
theorem linearDeterminant_k18 : (Rows.linearDeterminantSpec.vars.all (Try.pinned.checked.prog.varReadable ·)) = true := by kernel_rfl
theorem linearDeterminant_k19 : (Try.f3.resultTypes.all (fun t => Try.pinned.checked.prog.readableRec t && decide (t < Try.pinned.checked.prog.types.size))) = true := by kernel_rfl
theorem linearDeterminant_k20 : (Rows.linearDeterminantRow.ifacesOut == Try.f3.resultTypes.toList.any (Try.pinned.checked.prog.ifacesRec ·)) = true := by kernel_rfl
theorem linearDeterminant_k21 : (Rows.linearDeterminantRow.loopsOut == Try.f3.resultTypes.toList.any (Try.pinned.checked.prog.loopsFrom ·)) = true := by kernel_rfl
theorem linearDeterminant_k22 : (Rows.linearDeterminantRow.plainKeys == Try.pinned.checked.prog.plainKeys) = true := by kernel_rfl
theorem linearDeterminant_k23 : (Rows.linearDeterminantRow.shortTexts.isNone) = true := by kernel_rfl
theorem linearDeterminant_k24 : (Try.pinned.checked.prog.stopsHeard) = true := by kernel_rfl
theorem linearDeterminant_k25 : (Try.pinned.checked.prog.mayEnter) = true := by kernel_rfl
theorem linearDeterminant_k26 : (Rows.linearDeterminantRow.lifted == Try.pinned.checked.prog.liftsFinal) = true := by kernel_rfl
theorem linearDeterminant_k27 : (Try.pinned.checked.prog.make == some Rows.linearDeterminantRow.make) = true := by kernel_rfl
theorem linearDeterminant_k28 : (Rows.linearDeterminantRow.kinds == (if Rows.linearDeterminantRow.domain.isEmpty then [] else Try.f3.params.toList.map fun t => match Try.pinned.checked.prog.underlying t with | some (.int k) => some k | _ => none)) = true := by kernel_rfl
theorem linearDeterminant_k29 : (Rows.linearDeterminantRow.pinned == Rows.linearDeterminantRow.pinnedBy) = true := by kernel_rfl
theorem linearDeterminant_k30 : (Rows.linearDeterminantRow.veiled == (Try.f3.params.toList ++ Rows.linearDeterminantSpec.plain.varTypes Try.pinned.checked.prog ++ Try.f3.resultTypes.toList).any (Try.pinned.checked.prog.veiledRec ·)) = true := by kernel_rfl
theorem linearDeterminant_k31 : (Rows.linearDeterminantRow.veiledFits Try.pinned.checked.prog Try.f3.params.toList (Try.f3.params.toList ++ Rows.linearDeterminantSpec.plain.varTypes Try.pinned.checked.prog ++ Try.f3.resultTypes.toList)) = true := by kernel_rfl
set_option maxRecDepth 100000 in
theorem linearDeterminant_closed : joinedFacts Try.pinned.checked.prog 3 Try.f3 Rows.linearDeterminantSpec Rows.linearDeterminantRow = true := by
  simp only [joinedFacts, Bool.and_eq_true]
  exact ⟨⟨⟨⟨⟨⟨⟨⟨⟨⟨⟨⟨⟨⟨⟨⟨⟨⟨⟨⟨⟨⟨⟨⟨⟨⟨⟨⟨⟨⟨⟨linearDeterminant_k0, linearDeterminant_k1⟩, linearDeterminant_k2⟩, linearDeterminant_k3⟩, linearDeterminant_k4⟩, linearDeterminant_k5⟩, linearDeterminant_k6⟩, linearDeterminant_k7⟩, linearDeterminant_k8⟩, linearDeterminant_k9⟩, linearDeterminant_k10⟩, linearDeterminant_k11⟩, linearDeterminant_k12⟩, linearDeterminant_k13⟩, linearDeterminant_k14⟩, linearDeterminant_k15⟩, linearDeterminant_k16⟩, linearDeterminant_k17⟩, linearDeterminant_k18⟩, linearDeterminant_k19⟩, linearDeterminant_k20⟩, linearDeterminant_k21⟩, linearDeterminant_k22⟩, linearDeterminant_k23⟩, linearDeterminant_k24⟩, linearDeterminant_k25⟩, linearDeterminant_k26⟩, linearDeterminant_k27⟩, linearDeterminant_k28⟩, linearDeterminant_k29⟩, linearDeterminant_k30⟩, linearDeterminant_k31⟩

theorem linearDeterminant_holds : Rows.LinearDeterminantSaid :=
  OpenClaim.holds_of_wide 3 Try.f3 rfl rfl rfl rfl rfl rfl rfl ⟨rfl, rfl, rfl, rfl, rfl⟩ rfl rfl rfl rfl rfl (by kernel_rfl) Try.func3 linearDeterminant_closed
    (of_decide_eq_true (by kernel_rfl)) (by unfold Func.isWrapper; first | (rw [if_pos (by decide +kernel)]; kernel_rfl) | (rw [if_neg (by decide +kernel)]; exact ⟨rfl, rfl⟩))
    (fun os started H enc _ => linearDeterminant_lifted os started H enc)

end Go.Proofs.Ytpaochhaenehmaa
