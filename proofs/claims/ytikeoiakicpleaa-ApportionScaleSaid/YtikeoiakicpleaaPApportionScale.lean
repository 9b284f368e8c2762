/-
  ApportionScale: for every input the law returns true: only the proportions of the weights matter. No condition.
-/
import Derived.Test.YtikeoiakicpleaaAL2
import Derived.Test.YtikeoiakicpleaaFrameA
namespace Go.Proofs.Ytikeoiakicpleaa
open Go.RowKit Nd
open Go.ChangeShapes Go.WideShapes Go.ChangeAt
open Go.ChangeMaps (open_string shut_string)

set_option maxRecDepth 100000 in
theorem apportionScale_lifted (os : Os) (started : os.Started) (H : Type) (enc : TypeId × Value → H) :
    ReturnsInHanded {} Try.checked os 8 .any (Rows.apportionScaleSpec.pre6 enc Try.prog Try.f8 [] false) (Rows.apportionScaleSpec.post enc Try.prog Try.f8 false true false false) := by
  refine returnsInHanded_of_change (C := Try.checked) own started (by kernel_rfl) Try.func8
    (ChangeSpec.witness6 (enc := enc) (C := Try.checked) false ⟨#[], #[.int .u32 0, .slice none 0 0, .int .u16 0], []⟩ 8 (by kernel_rfl) (by kernel_rfl) (by kernel_rfl) (by kernel_rfl)) ?_
  intro W base args ds gs before hval0 hW _ _
  have hval : ∀ (j : Nat) t v, Try.f8.params[j]? = some t → args[j]? = some v → Value.okWide Try.prog W .any base t v := hval0
  have hW' := hW
  obtain ⟨p, q, hA0, hV, rfl, _, _⟩ := hW
  have hA : DataW.TrodAll enc Try.prog W 0 (fun _ => true) true Try.f8.params.toList args.toList ds p := hA0
  rw [Try.params8] at hA hval
  obtain ⟨v0, v1, v2, d0, d1, d2, p0, p1, p2, rfl, rfl, rfl, h0, h1, h2⟩ := trodAll_three hA
  obtain ⟨rfl, rfl⟩ := trodVars_none hV
  obtain ⟨a0, rfl, rfl, rfl, b0⟩ := open_int Try.underlying41 (hval 0 41 v0 rfl rfl) h0
  obtain ⟨A1, cap1, a1, rfl, b1, c1, e1⟩ := open_ws (hval 1 42 v1 rfl rfl) h1
  obtain ⟨a2, rfl, rfl, rfl, b2⟩ := open_int Try.underlying36 (hval 2 36 v2 rfl rfl) h2
  simp only [List.append_nil] at hW'
  refine (lascale_any a0 a1 a2 _ A1 cap1 W (rngU32 b0) (rngU16 b2) rfl b1 c1 e1).mono fun e W' ⟨he, hch⟩ => ?_
  subst he
  exact ⟨_, rfl, _, _, _, [], _, [], hW', trodAll_mk1 (shut_bool Try.underlying4 _), args_again (by rw [Try.params8]; exact of_decide_eq_true (by kernel_rfl)) hA0 hch.below, rfl, hch.below.frame _, fun h => by cases h⟩

theorem apportionScale_k0 : (Rows.apportionScaleRow.wf (OpenSpec.ofChange Rows.apportionScaleSpec)) = true := by kernel_rfl
theorem apportionScale_k1 : (laidOutB Try.pinned.checked.prog) = true := by kernel_rfl
theorem apportionScale_k2 : (mapsRowed Try.pinned.checked.prog) = true := by kernel_rfl
theorem apportionScale_k3 : (Try.f8.params.all (Try.pinned.checked.prog.readableRec ·)) = true := by kernel_rfl
theorem apportionScale_k4 : (namedTie Try.pinned.checked.prog Rows.apportionScaleRow.named Rows.apportionScaleSpec.vars) = true := by kernel_rfl
theorem apportionScale_k5 : (Rows.apportionScaleRow.stops == []) = true := by kernel_rfl
theorem apportionScale_k6 : (Try.pinned.checked.prog.stops == []) = true := by kernel_rfl
theorem apportionScale_k7 : (Rows.apportionScaleRow.knobs == []) = true := by kernel_rfl
theorem apportionScale_k8 : (Try.pinned.checked.prog.stopKnobs == []) = true := by kernel_rfl
theorem apportionScale_k9 : (Rows.apportionScaleRow.inPlace == Try.pinned.checked.prog.inPlace 8) = true := by kernel_rfl
theorem apportionScale_k10 : (Rows.apportionScaleRow.unfollowed == Try.pinned.checked.prog.unfollowed 8) = true := by kernel_rfl
theorem apportionScale_k11 : (Rows.apportionScaleRow.recurses == Try.pinned.checked.prog.recurses 8) = true := by kernel_rfl
theorem apportionScale_k12 : (Rows.apportionScaleRow.named == Try.pinned.checked.prog.varsNamed 8) = true := by kernel_rfl
theorem apportionScale_k13 : (Rows.apportionScaleRow.maps == (Try.f8.params.toList ++ Rows.apportionScaleSpec.plain.varTypes Try.pinned.checked.prog).any (Try.pinned.checked.prog.mapsRec ·)) = true := by kernel_rfl
theorem apportionScale_k14 : (Rows.apportionScaleRow.ifaces == (Try.f8.params.toList ++ Rows.apportionScaleSpec.plain.varTypes Try.pinned.checked.prog).any (Try.pinned.checked.prog.ifacesRec ·)) = true := by kernel_rfl
theorem apportionScale_k15 : (Rows.apportionScaleRow.mapsOut == Try.pinned.checked.prog.mapsAmong Try.f8.resultTypes.toList) = true := by kernel_rfl
theorem apportionScale_k16 : (Rows.apportionScaleRow.loops == (Try.f8.params.toList ++ Rows.apportionScaleSpec.plain.varTypes Try.pinned.checked.prog).any (Try.pinned.checked.prog.loopsFrom ·)) = true := by kernel_rfl
theorem apportionScale_k17 : (Rows.apportionScaleRow.wideKeys == (Try.f8.params.toList ++ Rows.apportionScaleSpec.plain.varTypes Try.pinned.checked.prog ++ Try.f8.resultTypes.toList).any (Try.pinned.checked.prog.wideKeysFrom ·)) = true := by kernel_rfl
theorem apportionScale_k18 : (Rows.apportionScaleSpec.vars.all (Try.pinned.checked.prog.varReadable ·)) = true := by kernel_rfl
theorem apportionScale_k19 : (Try.f8.resultTypes.all (fun t => Try.pinned.checked.prog.readableRec t && decide (t < Try.pinned.checked.prog.types.size))) = true := by kernel_rfl
theorem apportionScale_k20 : (Rows.apportionScaleRow.ifacesOut == Try.f8.resultTypes.toList.any (Try.pinned.checked.prog.ifacesRec ·)) = true := by kernel_rfl
theorem apportionScale_k21 : (Rows.apportionScaleRow.loopsOut == Try.f8.resultTypes.toList.any (Try.pinned.checked.prog.loopsFrom ·)) = true := by kernel_rfl
theorem apportionScale_k22 : (Rows.apportionScaleRow.plainKeys == Try.pinned.checked.prog.plainKeys) = true := by kernel_rfl
theorem apportionScale_k23 : (Rows.apportionScaleRow.shortTexts.isNone) = true := by kernel_rfl
theorem apportionScale_k24 : (Try.pinned.checked.prog.stopsHeard) = true := by kernel_rfl
theorem apportionScale_k25 : (Try.pinned.checked.prog.mayEnter) = true := by kernel_rfl
theorem apportionScale_k26 : (Rows.apportionScaleRow.lifted == Try.pinned.checked.prog.liftsFinal) = true := by kernel_rfl
theorem apportionScale_k27 : (Try.pinned.checked.prog.make == some Rows.apportionScaleRow.make) = true := by kernel_rfl
theorem apportionScale_k28 : (Rows.apportionScaleRow.kinds == (if Rows.apportionScaleRow.domain.isEmpty then [] else Try.f8.params.toList.map fun t => match Try.pinned.checked.prog.underlying t with | some (.int k) => some k | _ => none)) = true := by kernel_rfl
theorem apportionScale_k29 : (Rows.apportionScaleRow.pinned == Rows.apportionScaleRow.pinnedBy) = true := by kernel_rfl
theorem apportionScale_k30 : (Rows.apportionScaleRow.veiled == (Try.f8.params.toList ++ Rows.apportionScaleSpec.plain.varTypes Try.pinned.checked.prog ++ Try.f8.resultTypes.toList).any (Try.pinned.checked.prog.veiledRec ·)) = true := by kernel_rfl
theorem apportionScale_k31 : (Rows.apportionScaleRow.veiledFits Try.pinned.checked.prog Try.f8.params.toList (Try.f8.params.toList ++ Rows.apportionScaleSpec.plain.varTypes Try.pinned.checked.prog ++ Try.f8.resultTypes.toList)) = true := by kernel_rfl
set_option maxRecDepth 100000 in
theorem apportionScale_closed : joinedFacts Try.pinned.checked.prog 8 Try.f8 Rows.apportionScaleSpec Rows.apportionScaleRow = true := by
  simp only [joinedFacts, Bool.and_eq_true]
  exact ⟨⟨⟨⟨⟨⟨⟨⟨⟨⟨⟨⟨⟨⟨⟨⟨⟨⟨⟨⟨⟨⟨⟨⟨⟨⟨⟨⟨⟨⟨⟨apportionScale_k0, apportionScale_k1⟩, apportionScale_k2⟩, apportionScale_k3⟩, apportionScale_k4⟩, apportionScale_k5⟩, apportionScale_k6⟩, apportionScale_k7⟩, apportionScale_k8⟩, apportionScale_k9⟩, apportionScale_k10⟩, apportionScale_k11⟩, apportionScale_k12⟩, apportionScale_k13⟩, apportionScale_k14⟩, apportionScale_k15⟩, apportionScale_k16⟩, apportionScale_k17⟩, apportionScale_k18⟩, apportionScale_k19⟩, apportionScale_k20⟩, apportionScale_k21⟩, apportionScale_k22⟩, apportionScale_k23⟩, apportionScale_k24⟩, apportionScale_k25⟩, apportionScale_k26⟩, apportionScale_k27⟩, apportionScale_k28⟩, apportionScale_k29⟩, apportionScale_k30⟩, apportionScale_k31⟩

theorem apportionScale_holds : Rows.ApportionScaleSaid :=
  OpenClaim.holds_of_wide 8 Try.f8 rfl rfl rfl rfl rfl rfl rfl ⟨rfl, rfl, rfl, rfl, rfl⟩ rfl rfl rfl rfl rfl (by kernel_rfl) Try.func8 apportionScale_closed
    (of_decide_eq_true (by kernel_rfl)) (by unfold Func.isWrapper; first | (rw [if_pos (by decide +kernel)]; kernel_rfl) | (rw [if_neg (by decide +kernel)]; exact ⟨rfl, rfl⟩))
    (fun os started H enc _ => apportionScale_lifted os started H enc)

end Go.Proofs.Ytikeoiakicpleaa
