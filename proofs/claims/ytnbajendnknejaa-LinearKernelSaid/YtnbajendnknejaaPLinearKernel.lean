/-
  LinearKernel: for every input the law returns true: Kernel agrees with the definition for arbitrary matrices. No condition.
-/
import Derived.Test.YtnbajendnknejaaLA22
import Derived.Test.YtnbajendnknejaaFrame4
namespace Go.Proofs.Ytnbajendnknejaa
open Go.RowKit Nd
open Go.ChangeShapes Go.WideShapes Go.ChangeAt
open Go.ChangeMaps (open_string shut_string)

set_option maxRecDepth 100000 in
theorem linearKernel_lifted (os : Os) (started : os.Started) (H : Type) (enc : TypeId × Value → H) :
    ReturnsInHanded {} Try.checked os 6 .any (Rows.linearKernelSpec.pre6 enc Try.prog Try.f6 [] false) (Rows.linearKernelSpec.post enc Try.prog Try.f6 false true false false) := by
  refine returnsInHanded_of_change (C := Try.checked) own started (by kernel_rfl) Try.func6
    (ChangeSpec.witness6 (enc := enc) (C := Try.checked) false ⟨#[], #[.slice none 0 0], []⟩ 8 (by kernel_rfl) (by kernel_rfl) (by kernel_rfl) (by kernel_rfl)) ?_
  intro W base args ds gs before hval0 hW _ _
  have hval : ∀ (j : Nat) t v, Try.f6.params[j]? = some t → args[j]? = some v → Value.okWide Try.prog W .any base t v := hval0
  have hW' := hW
  obtain ⟨p, q, hA0, hV, rfl, _, _⟩ := hW
  have hA : DataW.TrodAll enc Try.prog W 0 (fun _ => true) true Try.f6.params.toList args.toList ds p := hA0
  rw [Try.params6] at hA hval
  obtain ⟨v0, d0, rfl, rfl, h0⟩ := trodAll_one hA
  obtain ⟨rfl, rfl⟩ := trodVars_none hV
  obtain ⟨A0, cap0, a0, rfl, b0, c0, e0⟩ := open_mat (hval 0 22 v0 rfl rfl) h0
  simp only [List.append_nil] at hW'
  refine (lkernel_any a0 A0 cap0 W e0).mono fun e W' ⟨he, hch⟩ => ?_
  subst he
  exact ⟨_, rfl, _, _, _, [], _, [], hW', trodAll_mk1 (shut_bool Try.underlying4 _), args_again (by rw [Try.params6]; exact of_decide_eq_true (by kernel_rfl)) hA0 hch.below, rfl, hch.below.frame _, fun h => by cases h⟩

theorem linearKernel_k0 : (Rows.linearKernelRow.wf (OpenSpec.ofChange Rows.linearKernelSpec)) = true := by kernel_rfl
theorem linearKernel_k1 : (laidOutB Try.pinned.checked.prog) = true := by kernel_rfl
theorem linearKernel_k2 : (mapsRowed Try.pinned.checked.prog) = true := by kernel_rfl
theorem linearKernel_k3 : (Try.f6.params.all (Try.pinned.checked.prog.readableRec ·)) = true := by kernel_rfl
theorem linearKernel_k4 : (namedTie Try.pinned.checked.prog Rows.linearKernelRow.named Rows.linearKernelSpec.vars) = true := by kernel_rfl
theorem linearKernel_k5 : (Rows.linearKernelRow.stops == []) = true := by kernel_rfl
theorem linearKernel_k6 : (Try.pinned.checked.prog.stops == []) = true := by kernel_rfl
theorem linearKernel_k7 : (Rows.linearKernelRow.knobs == []) = true := by kernel_rfl
theorem linearKernel_k8 : (Try.pinned.checked.prog.stopKnobs == []) = true := by kernel_rfl
theorem linearKernel_k9 : (Rows.linearKernelRow.inPlace == Try.pinned.checked.prog.inPlace 6) = true := by kernel_rfl
theorem linearKernel_k10 : (Rows.linearKernelRow.unfollowed == Try.pinned.checked.prog.unfollowed 6) = true := by kernel_rfl
theorem linearKernel_k11 : (Rows.linearKernelRow.recurses == Try.pinned.checked.prog.recurses 6) = true := by kernel_rfl
theorem linearKernel_k12 : (Rows.linearKernelRow.named == Try.pinned.checked.prog.varsNamed 6) = true := by kernel_rfl
theorem linearKernel_k13 : (Rows.linearKernelRow.maps == (Try.f6.params.toList ++ Rows.linearKernelSpec.plain.varTypes Try.pinned.checked.prog).any (Try.pinned.checked.prog.mapsRec ·)) = true := by kernel_rfl
theorem linearKernel_k14 : (Rows.linearKernelRow.ifaces == (Try.f6.params.toList ++ Rows.linearKernelSpec.plain.varTypes Try.pinned.checked.prog).any (Try.pinned.checked.prog.ifacesRec ·)) = true := by kernel_rfl
theorem linearKernel_k15 : (Rows.linearKernelRow.mapsOut == Try.pinned.checked.prog.mapsAmong Try.f6.resultTypes.toList) = true := by kernel_rfl
theorem linearKernel_k16 : (Rows.linearKernelRow.loops == (Try.f6.params.toList ++ Rows.linearKernelSpec.plain.varTypes Try.pinned.checked.prog).any (Try.pinned.checked.prog.loopsFrom ·)) = true := by kernel_rfl
theorem linearKernel_k17 : (Rows.linearKernelRow.wideKeys == (Try.f6.params.toList ++ Rows.linearKernelSpec.plain.varTypes Try.pinned.checked.prog ++ Try.f6.resultTypes.toList).any (Try.pinned.checked.prog.wideKeysFrom ·)) = true := by kernel_rfl
theorem linearKernel_k18 : (Rows.linearKernelSpec.vars.all (Try.pinned.checked.prog.varReadable ·)) = true := by kernel_rfl
theorem linearKernel_k19 : (Try.f6.resultTypes.all (fun t => Try.pinned.checked.prog.readableRec t && decide (t < Try.pinned.checked.prog.types.size))) = true := by kernel_rfl
theorem linearKernel_k20 : (Rows.linearKernelRow.ifacesOut == Try.f6.resultTypes.toList.any (Try.pinned.checked.prog.ifacesRec ·)) = true := by kernel_rfl
theorem linearKernel_k21 : (Rows.linearKernelRow.loopsOut == Try.f6.resultTypes.toList.any (Try.pinned.checked.prog.loopsFrom ·)) = true := by kernel_rfl
theorem linearKernel_k22 : (Rows.linearKernelRow.plainKeys == Try.pinned.checked.prog.plainKeys) = true := by kernel_rfl
theorem linearKernel_k23 : (Rows.linearKernelRow.shortTexts.isNone) = true := by kernel_rfl
theorem linearKernel_k24 : (Try.pinned.checked.prog.stopsHeard) = true := by kernel_rfl
theorem linearKernel_k25 : (Try.pinned.checked.prog.mayEnter) = true := by kernel_rfl
theorem linearKernel_k26 : (Rows.linearKernelRow.lifted == Try.pinned.checked.prog.liftsFinal) = true := by kernel_rfl
theorem linearKernel_k27 : (Try.pinned.checked.prog.make == some Rows.linearKernelRow.make) = true := by kernel_rfl
theorem linearKernel_k28 : (Rows.linearKernelRow.kinds == (if Rows.linearKernelRow.domain.isEmpty then [] else Try.f6.params.toList.map fun t => match Try.pinned.checked.prog.underlying t with | some (.int k) => some k | _ => none)) = true := by kernel_rfl
theorem linearKernel_k29 : (Rows.linearKernelRow.pinned == Rows.linearKernelRow.pinnedBy) = true := by kernel_rfl
theorem linearKernel_k30 : (Rows.linearKernelRow.veiled == (Try.f6.params.toList ++ Rows.linearKernelSpec.plain.varTypes Try.pinned.checked.prog ++ Try.f6.resultTypes.toList).any (Try.pinned.checked.prog.veiledRec ·)) = true := by kernel_rfl
theorem linearKernel_k31 : (Rows.linearKernelRow.veiledFits Try.pinned.checked.prog Try.f6.params.toList (Try.f6.params.toList ++ Rows.linearKernelSpec.plain.varTypes Try.pinned.checked.prog ++ Try.f6.resultTypes.toList)) = true := by kernel_rfl
set_option maxRecDepth 100000 in
theorem linearKernel_closed : joinedFacts Try.pinned.checked.prog 6 Try.f6 Rows.linearKernelSpec Rows.linearKernelRow = true := by
  simp only [joinedFacts, Bool.and_eq_true]
  exact ⟨⟨⟨⟨⟨⟨⟨⟨⟨⟨⟨⟨⟨⟨⟨⟨⟨⟨⟨⟨⟨⟨⟨⟨⟨⟨⟨⟨⟨⟨⟨linearKernel_k0, linearKernel_k1⟩, linearKernel_k2⟩, linearKernel_k3⟩, linearKernel_k4⟩, linearKernel_k5⟩, linearKernel_k6⟩, linearKernel_k7⟩, linearKernel_k8⟩, linearKernel_k9⟩, linearKernel_k10⟩, linearKernel_k11⟩, linearKernel_k12⟩, linearKernel_k13⟩, linearKernel_k14⟩, linearKernel_k15⟩, linearKernel_k16⟩, linearKernel_k17⟩, linearKernel_k18⟩, linearKernel_k19⟩, linearKernel_k20⟩, linearKernel_k21⟩, linearKernel_k22⟩, linearKernel_k23⟩, linearKernel_k24⟩, linearKernel_k25⟩, linearKernel_k26⟩, linearKernel_k27⟩, linearKernel_k28⟩, linearKernel_k29⟩, linearKernel_k30⟩, linearKernel_k31⟩

theorem linearKernel_holds : Rows.LinearKernelSaid :=
  OpenClaim.holds_of_wide 6 Try.f6 rfl rfl rfl rfl rfl rfl rfl ⟨rfl, rfl, rfl, rfl, rfl⟩ rfl rfl rfl rfl rfl (by kernel_rfl) Try.func6 linearKernel_closed
    (of_decide_eq_true (by kernel_rfl)) (by unfold Func.isWrapper; first | (rw [if_pos (by decide +kernel)]; kernel_rfl) | (rw [if_neg (by decide +kernel)]; exact ⟨rfl, rfl⟩))
    (fun os started H enc _ => linearKernel_lifted os started H enc)

end Go.Proofs.Ytnbajendnknejaa
