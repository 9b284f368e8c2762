/-
  LinearReduce: for every input the law returns true: Reduce and Rank agree with the definition for arbitrary matrices. No condition.
-/
import Derived.Test.YtnbajendnknejaaLA21
import Derived.Test.YtnbajendnknejaaFrame4
namespace Go.Proofs.Ytnbajendnknejaa
open Go.RowKit Nd
open Go.ChangeShapes Go.WideShapes Go.ChangeAt
open Go.ChangeMaps (open_string shut_string)

set_option maxRecDepth 100000 in
theorem linearReduce_lifted (os : Os) (started : os.Started) (H : Type) (enc : TypeId × Value → H) :
    ReturnsInHanded {} Try.checked os 4 .any (Rows.linearReduceSpec.pre6 enc Try.prog Try.f4 [] false) (Rows.linearReduceSpec.post enc Try.prog Try.f4 false true false false) := by
  refine returnsInHanded_of_change (C := Try.checked) own started (by kernel_rfl) Try.func4
    (ChangeSpec.witness6 (enc := enc) (C := Try.checked) false ⟨#[], #[.slice none 0 0], []⟩ 8 (by kernel_rfl) (by kernel_rfl) (by kernel_rfl) (by kernel_rfl)) ?_
  intro W base args ds gs before hval0 hW _ _
  have hval : ∀ (j : Nat) t v, Try.f4.params[j]? = some t → args[j]? = some v → Value.okWide Try.prog W .any base t v := hval0
  have hW' := hW
  obtain ⟨p, q, hA0, hV, rfl, _, _⟩ := hW
  have hA : DataW.TrodAll enc Try.prog W 0 (fun _ => true) true Try.f4.params.toList args.toList ds p := hA0
  rw [Try.params4] at hA hval
  obtain ⟨v0, d0, rfl, rfl, h0⟩ := trodAll_one hA
  obtain ⟨rfl, rfl⟩ := trodVars_none hV
  obtain ⟨A0, cap0, a0, rfl, b0, c0, e0⟩ := open_mat (hval 0 22 v0 rfl rfl) h0
  simp only [List.append_nil] at hW'
  refine (lreduce_any a0 A0 cap0 W e0).mono fun e W' ⟨he, hch⟩ => ?_
  subst he
  exact ⟨_, rfl, _, _, _, [], _, [], hW', trodAll_mk1 (shut_bool Try.underlying4 _), args_again (by rw [Try.params4]; exact of_decide_eq_true (by kernel_rfl)) hA0 hch.below, rfl, hch.below.frame _, fun h => by cases h⟩

theorem linearReduce_k0 : (Rows.linearReduceRow.wf (OpenSpec.ofChange Rows.linearReduceSpec)) = true := by kernel_rfl
theorem linearReduce_k1 : (laidOutB Try.pinned.checked.prog) = true := by kernel_rfl
theorem linearReduce_k2 : (mapsRowed Try.pinned.checked.prog) = true := by kernel_rfl
theorem linearReduce_k3 : (Try.f4.params.all (Try.pinned.checked.prog.readableRec ·)) = true := by kernel_rfl
theorem linearReduce_k4 : (namedTie Try.pinned.checked.prog Rows.linearReduceRow.named Rows.linearReduceSpec.vars) = true := by kernel_rfl
theorem linearReduce_k5 : (Rows.linearReduceRow.stops == []) = true := by kernel_rfl
theorem linearReduce_k6 : (Try.pinned.checked.prog.stops == []) = true := by kernel_rfl
theorem linearReduce_k7 : (Rows.linearReduceRow.knobs == []) = true := by kernel_rfl
theorem linearReduce_k8 : (Try.pinned.checked.prog.stopKnobs == []) = true := by kernel_rfl
theorem linearReduce_k9 : (Rows.linearReduceRow.inPlace == Try.pinned.checked.prog.inPlace 4) = true := by kernel_rfl
theorem linearReduce_k10 : (Rows.linearReduceRow.unfollowed == Try.pinned.checked.prog.unfollowed 4) = true := by kernel_rfl
theorem linearReduce_k11 : (Rows.linearReduceRow.recurses == Try.pinned.checked.prog.recurses 4) = true := by kernel_rfl
theorem linearReduce_k12 : (Rows.linearReduceRow.named == Try.pinned.checked.prog.varsNamed 4) = true := by kernel_rfl
theorem linearReduce_k13 : (Rows.linearReduceRow.maps == (Try.f4.params.toList ++ Rows.linearReduceSpec.plain.varTypes Try.pinned.checked.prog).any (Try.pinned.checked.prog.mapsRec ·)) = true := by kernel_rfl
theorem linearReduce_k14 : (Rows.linearReduceRow.ifaces == (Try.f4.params.toList ++ Rows.linearReduceSpec.plain.varTypes Try.pinned.checked.prog).any (Try.pinned.checked.prog.ifacesRec ·)) = true := by kernel_rfl
theorem linearReduce_k15 : (Rows.linearReduceRow.mapsOut == Try.pinned.checked.prog.mapsAmong Try.f4.resultTypes.toList) = true := by kernel_rfl
theorem linearReduce_k16 : (Rows.linearReduceRow.loops == (Try.f4.params.toList ++ Rows.linearReduceSpec.plain.varTypes Try.pinned.checked.prog).any (Try.pinned.checked.prog.loopsFrom ·)) = true := by kernel_rfl
theorem linearReduce_k17 : (Rows.linearReduceRow.wideKeys == (Try.f4.params.toList ++ Rows.linearReduceSpec.plain.varTypes Try.pinned.checked.prog ++ Try.f4.resultTypes.toList).any (Try.pinned.checked.prog.wideKeysFrom ·)) = true := by kernel_rfl
theorem linearReduce_k18 : (Rows.linearReduceSpec.vars.all (Try.pinned.checked.prog.varReadable ·)) = true := by kernel_rfl
theorem linearReduce_k19 : (Try.f4.resultTypes.all (fun t => Try.pinned.checked.prog.readableRec t && decide (t < Try.pinned.checked.prog.types.size))) = true := by kernel_rfl
theorem linearReduce_k20 : (Rows.linearReduceRow.ifacesOut == Try.f4.resultTypes.toList.any (Try.pinned.checked.prog.ifacesRec ·)) = true := by kernel_rfl
theorem linearReduce_k21 : (Rows.linearReduceRow.loopsOut == Try.f4.resultTypes.toList.any (Try.pinned.checked.prog.loopsFrom ·)) = true := by kernel_rfl
theorem linearReduce_k22 : (Rows.linearReduceRow.plainKeys == Try.pinned.checked.prog.plainKeys) = true := by kernel_rfl
theorem linearReduce_k23 : (Rows.linearReduceRow.shortTexts.isNone) = true := by kernel_rfl
theorem linearReduce_k24 : (Try.pinned.checked.prog.stopsHeard) = true := by kernel_rfl
theorem linearReduce_k25 : (Try.pinned.checked.prog.mayEnter) = true := by kernel_rfl
theorem linearReduce_k26 : (Rows.linearReduceRow.lifted == Try.pinned.checked.prog.liftsFinal) = true := by kernel_rfl
theorem linearReduce_k27 : (Try.pinned.checked.prog.make == some Rows.linearReduceRow.make) = true := by kernel_rfl
theorem linearReduce_k28 : (Rows.linearReduceRow.kinds == (if Rows.linearReduceRow.domain.isEmpty then [] else Try.f4.params.toList.map fun t => match Try.pinned.checked.prog.underlying t with | some (.int k) => some k | _ => none)) = true := by kernel_rfl
theorem linearReduce_k29 : (Rows.linearReduceRow.pinned == Rows.linearReduceRow.pinnedBy) = true := by kernel_rfl
theorem linearReduce_k30 : (Rows.linearReduceRow.veiled == (Try.f4.params.toList ++ Rows.linearReduceSpec.plain.varTypes Try.pinned.checked.prog ++ Try.f4.resultTypes.toList).any (Try.pinned.checked.prog.veiledRec ·)) = true := by kernel_rfl
theorem linearReduce_k31 : (Rows.linearReduceRow.veiledFits Try.pinned.checked.prog Try.f4.params.toList (Try.f4.params.toList ++ Rows.linearReduceSpec.plain.varTypes Try.pinned.checked.prog ++ Try.f4.resultTypes.toList)) = true := by kernel_rfl
set_option maxRecDepth 100000 in
theorem linearReduce_closed : joinedFacts Try.pinned.checked.prog 4 Try.f4 Rows.linearReduceSpec Rows.linearReduceRow = true := by
  simp only [joinedFacts, Bool.and_eq_true]
  exact ⟨⟨⟨⟨⟨⟨⟨⟨⟨⟨⟨⟨⟨⟨⟨⟨⟨⟨⟨⟨⟨⟨⟨⟨⟨⟨⟨⟨⟨⟨⟨linearReduce_k0, linearReduce_k1⟩, linearReduce_k2⟩, linearReduce_k3⟩, linearReduce_k4⟩, linearReduce_k5⟩, linearReduce_k6⟩, linearReduce_k7⟩, linearReduce_k8⟩, linearReduce_k9⟩, linearReduce_k10⟩, linearReduce_k11⟩, linearReduce_k12⟩, linearReduce_k13⟩, linearReduce_k14⟩, linearReduce_k15⟩, linearReduce_k16⟩, linearReduce_k17⟩, linearReduce_k18⟩, linearReduce_k19⟩, linearReduce_k20⟩, linearReduce_k21⟩, linearReduce_k22⟩, linearReduce_k23⟩, linearReduce_k24⟩, linearReduce_k25⟩, linearReduce_k26⟩, linearReduce_k27⟩, linearReduce_k28⟩, linearReduce_k29⟩, linearReduce_k30⟩, linearReduce_k31⟩

theorem linearReduce_holds : Rows.LinearReduceSaid :=
  OpenClaim.holds_of_wide 4 Try.f4 rfl rfl rfl rfl rfl rfl rfl ⟨rfl, rfl, rfl, rfl, rfl⟩ rfl rfl rfl rfl rfl (by kernel_rfl) Try.func4 linearReduce_closed
    (of_decide_eq_true (by kernel_rfl)) (by unfold Func.isWrapper; first | (rw [if_pos (by decide +kernel)]; kernel_rfl) | (rw [if_neg (by decide +kernel)]; exact ⟨rfl, rfl⟩))
    (fun os started H enc _ => linearReduce_lifted os started H enc)

end Go.Proofs.Ytnbajendnknejaa
