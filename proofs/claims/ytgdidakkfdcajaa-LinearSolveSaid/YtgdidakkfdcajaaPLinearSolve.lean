/-
  LinearSolve: for every input the law returns true: Solve agrees with the definition for arbitrary arguments. No condition.
-/
import Derived.Test.YtgdidakkfdcajaaLA23
import Derived.Test.YtgdidakkfdcajaaGZ
namespace Go.Proofs.Ytgdidakkfdcajaa
open Go.RowKit Nd
open Go.ChangeShapes Go.WideShapes Go.ChangeAt
open Go.ChangeMaps (open_string shut_string)

set_option maxRecDepth 100000 in
theorem linearSolve_lifted (os : Os) (started : os.Started) (H : Type) (enc : TypeId × Value → H) :
    ReturnsInHanded {} Try.checked os 3 .any (Rows.linearSolveSpec.pre6 enc Try.prog Try.f3 [] false) (Rows.linearSolveSpec.post enc Try.prog Try.f3 false true false false) := by
  refine returnsInHanded_of_change (C := Try.checked) own started (by kernel_rfl) Try.func3
    (ChangeSpec.witness6 (enc := enc) (C := Try.checked) false ⟨#[], #[.slice none 0 0, .slice none 0 0], []⟩ 8 (by kernel_rfl) (by kernel_rfl) (by kernel_rfl) (by kernel_rfl)) ?_
  intro W base args ds gs before hval0 hW _ _
  have hval : ∀ (j : Nat) t v, Try.f3.params[j]? = some t → args[j]? = some v → Value.okWide Try.prog W .any base t v := hval0
  have hW' := hW
  obtain ⟨p, q, hA0, hV, rfl, _, _⟩ := hW
  have hA : DataW.TrodAll enc Try.prog W 0 (fun _ => true) true Try.f3.params.toList args.toList ds p := hA0
  rw [Try.params3] at hA hval
  obtain ⟨v0, v1, d0, d1, p0, p1, rfl, rfl, rfl, h0, h1⟩ := trodAll_two hA
  obtain ⟨rfl, rfl⟩ := trodVars_none hV
  obtain ⟨A0, cap0, a0, rfl, b0, c0, e0⟩ := open_mat (hval 0 22 v0 rfl rfl) h0
  obtain ⟨A1, cap1, a1, rfl, b1, c1, e1⟩ := open_list (hval 1 23 v1 rfl rfl) h1
  simp only [List.append_nil] at hW'
  refine (lsolve_any a0 a1 A0 A1 cap0 cap1 W e0 e1).mono fun e W' ⟨he, hch⟩ => ?_
  subst he
  exact ⟨_, rfl, _, _, _, [], _, [], hW', trodAll_mk1 (shut_bool Try.underlying4 _), args_again (by rw [Try.params3]; exact of_decide_eq_true (by kernel_rfl)) hA0 hch.below, rfl, hch.below.frame _, fun h => by cases h⟩

theorem linearSolve_k0 : (Rows.linearSolveRow.wf (OpenSpec.ofChange Rows.linearSolveSpec)) = true := by kernel_rfl
theorem linearSolve_k1 : (laidOutB Try.pinned.checked.prog) = true := by kernel_rfl
theorem linearSolve_k2 : (mapsRowed Try.pinned.checked.prog) = true := by kernel_rfl
theorem linearSolve_k3 : (Try.f3.params.all (Try.pinned.checked.prog.readableRec ·)) = true := by kernel_rfl
theorem linearSolve_k4 : (namedTie Try.pinned.checked.prog Rows.linearSolveRow.named Rows.linearSolveSpec.vars) = true := by kernel_rfl
theorem linearSolve_k5 : (Rows.linearSolveRow.stops == []) = true := by kernel_rfl
theorem linearSolve_k6 : (Try.pinned.checked.prog.stops == []) = true := by kernel_rfl
theorem linearSolve_k7 : (Rows.linearSolveRow.knobs == []) = true := by kernel_rfl
theorem linearSolve_k8 : (Try.pinned.checked.prog.stopKnobs == []) = true := by kernel_rfl
theorem linearSolve_k9 : (Rows.linearSolveRow.inPlace == Try.pinned.checked.prog.inPlace 3) = true := by kernel_rfl
theorem linearSolve_k10 : (Rows.linearSolveRow.unfollowed == Try.pinned.checked.prog.unfollowed 3) = true := by kernel_rfl
theorem linearSolve_k11 : (Rows.linearSolveRow.recurses == Try.pinned.checked.prog.recurses 3) = true := by kernel_rfl
theorem linearSolve_k12 : (Rows.linearSolveRow.named == Try.pinned.checked.prog.varsNamed 3) = true := by kernel_rfl
theorem linearSolve_k13 : (Rows.linearSolveRow.maps == (Try.f3.params.toList ++ Rows.linearSolveSpec.plain.varTypes Try.pinned.checked.prog).any (Try.pinned.checked.prog.mapsRec ·)) = true := by kernel_rfl
theorem linearSolve_k14 : (Rows.linearSolveRow.ifaces == (Try.f3.params.toList ++ Rows.linearSolveSpec.plain.varTypes Try.pinned.checked.prog).any (Try.pinned.checked.prog.ifacesRec ·)) = true := by kernel_rfl
theorem linearSolve_k15 : (Rows.linearSolveRow.mapsOut == Try.pinned.checked.prog.mapsAmong Try.f3.resultTypes.toList) = true := by kernel_rfl
theorem linearSolve_k16 : (Rows.linearSolveRow.loops == (Try.f3.params.toList ++ Rows.linearSolveSpec.plain.varTypes Try.pinned.checked.prog).any (Try.pinned.checked.prog.loopsFrom ·)) = true := by kernel_rfl
theorem linearSolve_k17 : (Rows.linearSolveRow.wideKeys == (Try.f3.params.toList ++ Rows.linearSolveSpec.plain.varTypes Try.pinned.checked.prog ++ Try.f3.resultTypes.toList).any (Try.pinned.checked.prog.wideKeysFrom ·)) = true := by kernel_rfl
theorem linearSolve_k18 : (Rows.linearSolveSpec.vars.all (Try.pinned.checked.prog.varReadable ·)) = true := by kernel_rfl
theorem linearSolve_k19 : (Try.f3.resultTypes.all (fun t => Try.pinned.checked.prog.readableRec t && decide (t < Try.pinned.checked.prog.types.size))) = true := by kernel_rfl
theorem linearSolve_k20 : (Rows.linearSolveRow.ifacesOut == Try.f3.resultTypes.toList.any (Try.pinned.checked.prog.ifacesRec ·)) = true := by kernel_rfl
theorem linearSolve_k21 : (Rows.linearSolveRow.loopsOut == Try.f3.resultTypes.toList.any (Try.pinned.checked.prog.loopsFrom ·)) = true := by kernel_rfl
theorem linearSolve_k22 : (Rows.linearSolveRow.plainKeys == Try.pinned.checked.prog.plainKeys) = true := by kernel_rfl
theorem linearSolve_k23 : (Rows.linearSolveRow.shortTexts.isNone) = true := by kernel_rfl
theorem linearSolve_k24 : (Try.pinned.checked.prog.stopsHeard) = true := by kernel_rfl
theorem linearSolve_k25 : (Try.pinned.checked.prog.mayEnter) = true := by kernel_rfl
theorem linearSolve_k26 : (Rows.linearSolveRow.lifted == Try.pinned.checked.prog.liftsFinal) = true := by kernel_rfl
theorem linearSolve_k27 : (Try.pinned.checked.prog.make == some Rows.linearSolveRow.make) = true := by kernel_rfl
theorem linearSolve_k28 : (Rows.linearSolveRow.kinds == (if Rows.linearSolveRow.domain.isEmpty then [] else Try.f3.params.toList.map fun t => match Try.pinned.checked.prog.underlying t with | some (.int k) => some k | _ => none)) = true := by kernel_rfl
theorem linearSolve_k29 : (Rows.linearSolveRow.pinned == Rows.linearSolveRow.pinnedBy) = true := by kernel_rfl
theorem linearSolve_k30 : (Rows.linearSolveRow.veiled == (Try.f3.params.toList ++ Rows.linearSolveSpec.plain.varTypes Try.pinned.checked.prog ++ Try.f3.resultTypes.toList).any (Try.pinned.checked.prog.veiledRec ·)) = true := by kernel_rfl
theorem linearSolve_k31 : (Rows.linearSolveRow.veiledFits Try.pinned.checked.prog Try.f3.params.toList (Try.f3.params.toList ++ Rows.linearSolveSpec.plain.varTypes Try.pinned.checked.prog ++ Try.f3.resultTypes.toList)) = true := by kernel_rfl
set_option maxRecDepth 100000 in
theorem linearSolve_closed : joinedFacts Try.pinned.checked.prog 3 Try.f3 Rows.linearSolveSpec Rows.linearSolveRow = true := by
  simp only [joinedFacts, Bool.and_eq_true]
  exact ⟨⟨⟨⟨⟨⟨⟨⟨⟨⟨⟨⟨⟨⟨⟨⟨⟨⟨⟨⟨⟨⟨⟨⟨⟨⟨⟨⟨⟨⟨⟨linearSolve_k0, linearSolve_k1⟩, linearSolve_k2⟩, linearSolve_k3⟩, linearSolve_k4⟩, linearSolve_k5⟩, linearSolve_k6⟩, linearSolve_k7⟩, linearSolve_k8⟩, linearSolve_k9⟩, linearSolve_k10⟩, linearSolve_k11⟩, linearSolve_k12⟩, linearSolve_k13⟩, linearSolve_k14⟩, linearSolve_k15⟩, linearSolve_k16⟩, linearSolve_k17⟩, linearSolve_k18⟩, linearSolve_k19⟩, linearSolve_k20⟩, linearSolve_k21⟩, linearSolve_k22⟩, linearSolve_k23⟩, linearSolve_k24⟩, linearSolve_k25⟩, linearSolve_k26⟩, linearSolve_k27⟩, linearSolve_k28⟩, linearSolve_k29⟩, linearSolve_k30⟩, linearSolve_k31⟩

theorem linearSolve_holds : Rows.LinearSolveSaid :=
  OpenClaim.holds_of_wide 3 Try.f3 rfl rfl rfl rfl rfl rfl rfl ⟨rfl, rfl, rfl, rfl, rfl⟩ rfl rfl rfl rfl rfl (by kernel_rfl) Try.func3 linearSolve_closed
    (of_decide_eq_true (by kernel_rfl)) (by unfold Func.isWrapper; first | (rw [if_pos (by decide +kernel)]; kernel_rfl) | (rw [if_neg (by decide +kernel)]; exact ⟨rfl, rfl⟩))
    (fun os started H enc _ => linearSolve_lifted os started H enc)

end Go.Proofs.Ytgdidakkfdcajaa
