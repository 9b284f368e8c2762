/-
  LinearSolution: for every input the law returns true: the matrix times the solution is the right side, and there is a unique solution exactly if the determinant is not 0. No condition.
-/
import Derived.Test.YtgdidakkfdcajaaLA28
import Derived.Test.YtgdidakkfdcajaaFrameW
namespace Go.Proofs.Ytgdidakkfdcajaa
open Go.RowKit Nd
open Go.ChangeShapes Go.WideShapes Go.ChangeAt
open Go.ChangeMaps (open_string shut_string)

set_option maxRecDepth 100000 in
theorem linearSolution_lifted (os : Os) (started : os.Started) (H : Type) (enc : TypeId × Value → H) :
    ReturnsInHanded {} Try.checked os 6 .any (Rows.linearSolutionSpec.pre6 enc Try.prog Try.f6 [] false) (Rows.linearSolutionSpec.post enc Try.prog Try.f6 false true false false) := by
  refine returnsInHanded_of_change (C := Try.checked) own started (by kernel_rfl) Try.func6
    (ChangeSpec.witness6 (enc := enc) (C := Try.checked) false ⟨#[], #[.int .u8 0, .slice none 0 0, .slice none 0 0], []⟩ 8 (by kernel_rfl) (by kernel_rfl) (by kernel_rfl) (by kernel_rfl)) ?_
  intro W base args ds gs before hval0 hW _ _
  have hval : ∀ (j : Nat) t v, Try.f6.params[j]? = some t → args[j]? = some v → Value.okWide Try.prog W .any base t v := hval0
  have hW' := hW
  obtain ⟨p, q, hA0, hV, rfl, _, _⟩ := hW
  have hA : DataW.TrodAll enc Try.prog W 0 (fun _ => true) true Try.f6.params.toList args.toList ds p := hA0
  rw [Try.params6] at hA hval
  obtain ⟨v0, v1, v2, d0, d1, d2, p0, p1, p2, rfl, rfl, rfl, h0, h1, h2⟩ := trodAll_three hA
  obtain ⟨rfl, rfl⟩ := trodVars_none hV
  obtain ⟨a0, rfl, rfl, rfl, b0⟩ := open_int Try.underlying5 (hval 0 5 v0 rfl rfl) h0
  obtain ⟨A1, cap1, a1, rfl, b1, c1, e1⟩ := open_ws (hval 1 49 v1 rfl rfl) h1
  obtain ⟨A2, cap2, a2, rfl, b2, c2, e2⟩ := open_ws (hval 2 49 v2 rfl rfl) h2
  simp only [List.append_nil] at hW'
  refine (lsolution_any a0 a1 a2 _ _ A1 A2 cap1 cap2 W (rngU8 b0) rfl b1 c1 e1 rfl b2 c2 e2).mono fun e W' ⟨he, hch⟩ => ?_
  subst he
  exact ⟨_, rfl, _, _, _, [], _, [], hW', trodAll_mk1 (shut_bool Try.underlying4 _), args_again (by rw [Try.params6]; exact of_decide_eq_true (by kernel_rfl)) hA0 hch.below, rfl, hch.below.frame _, fun h => by cases h⟩

theorem linearSolution_k0 : (Rows.linearSolutionRow.wf (OpenSpec.ofChange Rows.linearSolutionSpec)) = true := by kernel_rfl
theorem linearSolution_k1 : (laidOutB Try.pinned.checked.prog) = true := by kernel_rfl
theorem linearSolution_k2 : (mapsRowed Try.pinned.checked.prog) = true := by kernel_rfl
theorem linearSolution_k3 : (Try.f6.params.all (Try.pinned.checked.prog.readableRec ·)) = true := by kernel_rfl
theorem linearSolution_k4 : (namedTie Try.pinned.checked.prog Rows.linearSolutionRow.named Rows.linearSolutionSpec.vars) = true := by kernel_rfl
theorem linearSolution_k5 : (Rows.linearSolutionRow.stops == []) = true := by kernel_rfl
theorem linearSolution_k6 : (Try.pinned.checked.prog.stops == []) = true := by kernel_rfl
theorem linearSolution_k7 : (Rows.linearSolutionRow.knobs == []) = true := by kernel_rfl
theorem linearSolution_k8 : (Try.pinned.checked.prog.stopKnobs == []) = true := by kernel_rfl
theorem linearSolution_k9 : (Rows.linearSolutionRow.inPlace == Try.pinned.checked.prog.inPlace 6) = true := by kernel_rfl
theorem linearSolution_k10 : (Rows.linearSolutionRow.unfollowed == Try.pinned.checked.prog.unfollowed 6) = true := by kernel_rfl
theorem linearSolution_k11 : (Rows.linearSolutionRow.recurses == Try.pinned.checked.prog.recurses 6) = true := by kernel_rfl
theorem linearSolution_k12 : (Rows.linearSolutionRow.named == Try.pinned.checked.prog.varsNamed 6) = true := by kernel_rfl
theorem linearSolution_k13 : (Rows.linearSolutionRow.maps == (Try.f6.params.toList ++ Rows.linearSolutionSpec.plain.varTypes Try.pinned.checked.prog).any (Try.pinned.checked.prog.mapsRec ·)) = true := by kernel_rfl
theorem linearSolution_k14 : (Rows.linearSolutionRow.ifaces == (Try.f6.params.toList ++ Rows.linearSolutionSpec.plain.varTypes Try.pinned.checked.prog).any (Try.pinned.checked.prog.ifacesRec ·)) = true := by kernel_rfl
theorem linearSolution_k15 : (Rows.linearSolutionRow.mapsOut == Try.pinned.checked.prog.mapsAmong Try.f6.resultTypes.toList) = true := by kernel_rfl
theorem linearSolution_k16 : (Rows.linearSolutionRow.loops == (Try.f6.params.toList ++ Rows.linearSolutionSpec.plain.varTypes Try.pinned.checked.prog).any (Try.pinned.checked.prog.loopsFrom ·)) = true := by kernel_rfl
theorem linearSolution_k17 : (Rows.linearSolutionRow.wideKeys == (Try.f6.params.toList ++ Rows.linearSolutionSpec.plain.varTypes Try.pinned.checked.prog ++ Try.f6.resultTypes.toList).any (Try.pinned.checked.prog.wideKeysFrom ·)) = true := by kernel_rfl
theorem linearSolution_k18 : (Rows.linearSolutionSpec.vars.all (Try.pinned.checked.prog.varReadable ·)) = true := by kernel_rfl
theorem linearSolution_k19 : (Try.f6.resultTypes.all (fun t => Try.pinned.checked.prog.readableRec t && decide (t < Try.pinned.checked.prog.types.size))) = true := by kernel_rfl
theorem linearSolution_k20 : (Rows.linearSolutionRow.ifacesOut == Try.f6.resultTypes.toList.any (Try.pinned.checked.prog.ifacesRec ·)) = true := by kernel_rfl
theorem linearSolution_k21 : (Rows.linearSolutionRow.loopsOut == Try.f6.resultTypes.toList.any (Try.pinned.checked.prog.loopsFrom ·)) = true := by kernel_rfl
theorem linearSolution_k22 : (Rows.linearSolutionRow.plainKeys == Try.pinned.checked.prog.plainKeys) = true := by kernel_rfl
theorem linearSolution_k23 : (Rows.linearSolutionRow.shortTexts.isNone) = true := by kernel_rfl
theorem linearSolution_k24 : (Try.pinned.checked.prog.stopsHeard) = true := by kernel_rfl
theorem linearSolution_k25 : (Try.pinned.checked.prog.mayEnter) = true := by kernel_rfl
theorem linearSolution_k26 : (Rows.linearSolutionRow.lifted == Try.pinned.checked.prog.liftsFinal) = true := by kernel_rfl
theorem linearSolution_k27 : (Try.pinned.checked.prog.make == some Rows.linearSolutionRow.make) = true := by kernel_rfl
theorem linearSolution_k28 : (Rows.linearSolutionRow.kinds == (if Rows.linearSolutionRow.domain.isEmpty then [] else Try.f6.params.toList.map fun t => match Try.pinned.checked.prog.underlying t with | some (.int k) => some k | _ => none)) = true := by kernel_rfl
theorem linearSolution_k29 : (Rows.linearSolutionRow.pinned == Rows.linearSolutionRow.pinnedBy) = true := by kernel_rfl
theorem linearSolution_k30 : (Rows.linearSolutionRow.veiled == (Try.f6.params.toList ++ Rows.linearSolutionSpec.plain.varTypes Try.pinned.checked.prog ++ Try.f6.resultTypes.toList).any (Try.pinned.checked.prog.veiledRec ·)) = true := by kernel_rfl
theorem linearSolution_k31 : (Rows.linearSolutionRow.veiledFits Try.pinned.checked.prog Try.f6.params.toList (Try.f6.params.toList ++ Rows.linearSolutionSpec.plain.varTypes Try.pinned.checked.prog ++ Try.f6.resultTypes.toList)) = true := by kernel_rfl
set_option maxRecDepth 100000 in
theorem linearSolution_closed : joinedFacts Try.pinned.checked.prog 6 Try.f6 Rows.linearSolutionSpec Rows.linearSolutionRow = true := by
  simp only [joinedFacts, Bool.and_eq_true]
  exact ⟨⟨⟨⟨⟨⟨⟨⟨⟨⟨⟨⟨⟨⟨⟨⟨⟨⟨⟨⟨⟨⟨⟨⟨⟨⟨⟨⟨⟨⟨⟨linearSolution_k0, linearSolution_k1⟩, linearSolution_k2⟩, linearSolution_k3⟩, linearSolution_k4⟩, linearSolution_k5⟩, linearSolution_k6⟩, linearSolution_k7⟩, linearSolution_k8⟩, linearSolution_k9⟩, linearSolution_k10⟩, linearSolution_k11⟩, linearSolution_k12⟩, linearSolution_k13⟩, linearSolution_k14⟩, linearSolution_k15⟩, linearSolution_k16⟩, linearSolution_k17⟩, linearSolution_k18⟩, linearSolution_k19⟩, linearSolution_k20⟩, linearSolution_k21⟩, linearSolution_k22⟩, linearSolution_k23⟩, linearSolution_k24⟩, linearSolution_k25⟩, linearSolution_k26⟩, linearSolution_k27⟩, linearSolution_k28⟩, linearSolution_k29⟩, linearSolution_k30⟩, linearSolution_k31⟩

theorem linearSolution_holds : Rows.LinearSolutionSaid :=
  OpenClaim.holds_of_wide 6 Try.f6 rfl rfl rfl rfl rfl rfl rfl ⟨rfl, rfl, rfl, rfl, rfl⟩ rfl rfl rfl rfl rfl (by kernel_rfl) Try.func6 linearSolution_closed
    (of_decide_eq_true (by kernel_rfl)) (by unfold Func.isWrapper; first | (rw [if_pos (by decide +kernel)]; kernel_rfl) | (rw [if_neg (by decide +kernel)]; exact ⟨rfl, rfl⟩))
    (fun os started H enc _ => linearSolution_lifted os started H enc)

end Go.Proofs.Ytgdidakkfdcajaa
