/-
  ApportionExact: for every input the law returns true: the results sum up to the total and differ from the exact shares by less than 1. No condition.
-/
import Derived.Test.YtikeoiakicpleaaAL5
import Derived.Test.YtikeoiakicpleaaFrameA
namespace Go.Proofs.Ytikeoiakicpleaa
open Go.RowKit Nd
open Go.ChangeShapes Go.WideShapes Go.ChangeAt
open Go.ChangeMaps (open_string shut_string)

set_option maxRecDepth 100000 in
theorem apportionExact_lifted (os : Os) (started : os.Started) (H : Type) (enc : TypeId × Value → H) :
    ReturnsInHanded {} Try.checked os 6 .any (Rows.apportionExactSpec.pre6 enc Try.prog Try.f6 [] false) (Rows.apportionExactSpec.post enc Try.prog Try.f6 false true false false) := by
  refine returnsInHanded_of_change (C := Try.checked) own started (by kernel_rfl) Try.func6
    (ChangeSpec.witness6 (enc := enc) (C := Try.checked) false ⟨#[], #[.int .u32 0, .slice none 0 0], []⟩ 8 (by kernel_rfl) (by kernel_rfl) (by kernel_rfl) (by kernel_rfl)) ?_
  intro W base args ds gs before hval0 hW _ _
  have hval : ∀ (j : Nat) t v, Try.f6.params[j]? = some t → args[j]? = some v → Value.okWide Try.prog W .any base t v := hval0
  have hW' := hW
  obtain ⟨p, q, hA0, hV, rfl, _, _⟩ := hW
  have hA : DataW.TrodAll enc Try.prog W 0 (fun _ => true) true Try.f6.params.toList args.toList ds p := hA0
  rw [Try.params6] at hA hval
  obtain ⟨v0, v1, d0, d1, p0, p1, rfl, rfl, rfl, h0, h1⟩ := trodAll_two hA
  obtain ⟨rfl, rfl⟩ := trodVars_none hV
  obtain ⟨a0, rfl, rfl, rfl, b0⟩ := open_int Try.underlying41 (hval 0 41 v0 rfl rfl) h0
  obtain ⟨A1, cap1, a1, rfl, b1, c1, e1⟩ := open_ws (hval 1 42 v1 rfl rfl) h1
  simp only [List.append_nil] at hW'
  refine (laexact_any a0 a1 _ A1 cap1 W (rngU32 b0) rfl b1 c1 e1).mono fun e W' ⟨he, hch⟩ => ?_
  subst he
  exact ⟨_, rfl, _, _, _, [], _, [], hW', trodAll_mk1 (shut_bool Try.underlying4 _), args_again (by rw [Try.params6]; exact of_decide_eq_true (by kernel_rfl)) hA0 hch.below, rfl, hch.below.frame _, fun h => by cases h⟩

theorem apportionExact_k0 : (Rows.apportionExactRow.wf (OpenSpec.ofChange Rows.apportionExactSpec)) = true := by kernel_rfl
theorem apportionExact_k1 : (laidOutB Try.pinned.checked.prog) = true := by kernel_rfl
theorem apportionExact_k2 : (mapsRowed Try.pinned.checked.prog) = true := by kernel_rfl
theorem apportionExact_k3 : (Try.f6.params.all (Try.pinned.checked.prog.readableRec ·)) = true := by kernel_rfl
theorem apportionExact_k4 : (namedTie Try.pinned.checked.prog Rows.apportionExactRow.named Rows.apportionExactSpec.vars) = true := by kernel_rfl
theorem apportionExact_k5 : (Rows.apportionExactRow.stops == []) = true := by kernel_rfl
theorem apportionExact_k6 : (Try.pinned.checked.prog.stops == []) = true := by kernel_rfl
theorem apportionExact_k7 : (Rows.apportionExactRow.knobs == []) = true := by kernel_rfl
theorem apportionExact_k8 : (Try.pinned.checked.prog.stopKnobs == []) = true := by kernel_rfl
theorem apportionExact_k9 : (Rows.apportionExactRow.inPlace == Try.pinned.checked.prog.inPlace 6) = true := by kernel_rfl
theorem apportionExact_k10 : (Rows.apportionExactRow.unfollowed == Try.pinned.checked.prog.unfollowed 6) = true := by kernel_rfl
theorem apportionExact_k11 : (Rows.apportionExactRow.recurses == Try.pinned.checked.prog.recurses 6) = true := by kernel_rfl
theorem apportionExact_k12 : (Rows.apportionExactRow.named == Try.pinned.checked.prog.varsNamed 6) = true := by kernel_rfl
theorem apportionExact_k13 : (Rows.apportionExactRow.maps == (Try.f6.params.toList ++ Rows.apportionExactSpec.plain.varTypes Try.pinned.checked.prog).any (Try.pinned.checked.prog.mapsRec ·)) = true := by kernel_rfl
theorem apportionExact_k14 : (Rows.apportionExactRow.ifaces == (Try.f6.params.toList ++ Rows.apportionExactSpec.plain.varTypes Try.pinned.checked.prog).any (Try.pinned.checked.prog.ifacesRec ·)) = true := by kernel_rfl
theorem apportionExact_k15 : (Rows.apportionExactRow.mapsOut == Try.pinned.checked.prog.mapsAmong Try.f6.resultTypes.toList) = true := by kernel_rfl
theorem apportionExact_k16 : (Rows.apportionExactRow.loops == (Try.f6.params.toList ++ Rows.apportionExactSpec.plain.varTypes Try.pinned.checked.prog).any (Try.pinned.checked.prog.loopsFrom ·)) = true := by kernel_rfl
theorem apportionExact_k17 : (Rows.apportionExactRow.wideKeys == (Try.f6.params.toList ++ Rows.apportionExactSpec.plain.varTypes Try.pinned.checked.prog ++ Try.f6.resultTypes.toList).any (Try.pinned.checked.prog.wideKeysFrom ·)) = true := by kernel_rfl
theorem apportionExact_k18 : (Rows.apportionExactSpec.vars.all (Try.pinned.checked.prog.varReadable ·)) = true := by kernel_rfl
theorem apportionExact_k19 : (Try.f6.resultTypes.all (fun t => Try.pinned.checked.prog.readableRec t && decide (t < Try.pinned.checked.prog.types.size))) = true := by kernel_rfl
theorem apportionExact_k20 : (Rows.apportionExactRow.ifacesOut == Try.f6.resultTypes.toList.any (Try.pinned.checked.prog.ifacesRec ·)) = true := by kernel_rfl
theorem apportionExact_k21 : (Rows.apportionExactRow.loopsOut == Try.f6.resultTypes.toList.any (Try.pinned.checked.prog.loopsFrom ·)) = true := by kernel_rfl
theorem apportionExact_k22 : (Rows.apportionExactRow.plainKeys == Try.pinned.checked.prog.plainKeys) = true := by kernel_rfl
theorem apportionExact_k23 : (Rows.apportionExactRow.shortTexts.isNone) = true := by kernel_rfl
theorem apportionExact_k24 : (Try.pinned.checked.prog.stopsHeard) = true := by kernel_rfl
theorem apportionExact_k25 : (Try.pinned.checked.prog.mayEnter) = true := by kernel_rfl
theorem apportionExact_k26 : (Rows.apportionExactRow.lifted == Try.pinned.checked.prog.liftsFinal) = true := by kernel_rfl
theorem apportionExact_k27 : (Try.pinned.checked.prog.make == some Rows.apportionExactRow.make) = true := by kernel_rfl
theorem apportionExact_k28 : (Rows.apportionExactRow.kinds == (if Rows.apportionExactRow.domain.isEmpty then [] else Try.f6.params.toList.map fun t => match Try.pinned.checked.prog.underlying t with | some (.int k) => some k | _ => none)) = true := by kernel_rfl
theorem apportionExact_k29 : (Rows.apportionExactRow.pinned == Rows.apportionExactRow.pinnedBy) = true := by kernel_rfl
theorem apportionExact_k30 : (Rows.apportionExactRow.veiled == (Try.f6.params.toList ++ Rows.apportionExactSpec.plain.varTypes Try.pinned.checked.prog ++ Try.f6.resultTypes.toList).any (Try.pinned.checked.prog.veiledRec ·)) = true := by kernel_rfl
theorem apportionExact_k31 : (Rows.apportionExactRow.veiledFits Try.pinned.checked.prog Try.f6.params.toList (Try.f6.params.toList ++ Rows.apportionExactSpec.plain.varTypes Try.pinned.checked.prog ++ Try.f6.resultTypes.toList)) = true := by kernel_rfl
set_option maxRecDepth 100000 in
theorem apportionExact_closed : joinedFacts Try.pinned.checked.prog 6 Try.f6 Rows.apportionExactSpec Rows.apportionExactRow = true := by
  simp only [joinedFacts, Bool.and_eq_true]
  exact ⟨⟨⟨⟨⟨⟨⟨⟨⟨⟨⟨⟨⟨⟨⟨⟨⟨⟨⟨⟨⟨⟨⟨⟨⟨⟨⟨⟨⟨⟨⟨apportionExact_k0, apportionExact_k1⟩, apportionExact_k2⟩, apportionExact_k3⟩, apportionExact_k4⟩, apportionExact_k5⟩, apportionExact_k6⟩, apportionExact_k7⟩, apportionExact_k8⟩, apportionExact_k9⟩, apportionExact_k10⟩, apportionExact_k11⟩, apportionExact_k12⟩, apportionExact_k13⟩, apportionExact_k14⟩, apportionExact_k15⟩, apportionExact_k16⟩, apportionExact_k17⟩, apportionExact_k18⟩, apportionExact_k19⟩, apportionExact_k20⟩, apportionExact_k21⟩, apportionExact_k22⟩, apportionExact_k23⟩, apportionExact_k24⟩, apportionExact_k25⟩, apportionExact_k26⟩, apportionExact_k27⟩, apportionExact_k28⟩, apportionExact_k29⟩, apportionExact_k30⟩, apportionExact_k31⟩

theorem apportionExact_holds : Rows.ApportionExactSaid :=
  OpenClaim.holds_of_wide 6 Try.f6 rfl rfl rfl rfl rfl rfl rfl ⟨rfl, rfl, rfl, rfl, rfl⟩ rfl rfl rfl rfl rfl (by kernel_rfl) Try.func6 apportionExact_closed
    (of_decide_eq_true (by kernel_rfl)) (by unfold Func.isWrapper; first | (rw [if_pos (by decide +kernel)]; kernel_rfl) | (rw [if_neg (by decide +kernel)]; exact ⟨rfl, rfl⟩))
    (fun os started H enc _ => apportionExact_lifted os started H enc)

end Go.Proofs.Ytikeoiakicpleaa
