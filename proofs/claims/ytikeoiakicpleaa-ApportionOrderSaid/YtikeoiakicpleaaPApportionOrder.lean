/-
  ApportionOrder: for every input the law returns true: a share that is at least as great as another one gets at least as much, except for the last unit, which goes to the smaller index first. No condition.
-/
import Derived.Test.YtikeoiakicpleaaAL3
import Derived.Test.YtikeoiakicpleaaFrameA
namespace Go.Proofs.Ytikeoiakicpleaa
open Go.RowKit Nd
open Go.ChangeShapes Go.WideShapes Go.ChangeAt
open Go.ChangeMaps (open_string shut_string)

set_option maxRecDepth 100000 in
theorem apportionOrder_lifted (os : Os) (started : os.Started) (H : Type) (enc : TypeId × Value → H) :
    ReturnsInHanded {} Try.checked os 7 .any (Rows.apportionOrderSpec.pre6 enc Try.prog Try.f7 [] false) (Rows.apportionOrderSpec.post enc Try.prog Try.f7 false true false false) := by
  refine returnsInHanded_of_change (C := Try.checked) own started (by kernel_rfl) Try.func7
    (ChangeSpec.witness6 (enc := enc) (C := Try.checked) false ⟨#[], #[.int .u32 0, .slice none 0 0], []⟩ 8 (by kernel_rfl) (by kernel_rfl) (by kernel_rfl) (by kernel_rfl)) ?_
  intro W base args ds gs before hval0 hW _ _
  have hval : ∀ (j : Nat) t v, Try.f7.params[j]? = some t → args[j]? = some v → Value.okWide Try.prog W .any base t v := hval0
  have hW' := hW
  obtain ⟨p, q, hA0, hV, rfl, _, _⟩ := hW
  have hA : DataW.TrodAll enc Try.prog W 0 (fun _ => true) true Try.f7.params.toList args.toList ds p := hA0
  rw [Try.params7] at hA hval
  obtain ⟨v0, v1, d0, d1, p0, p1, rfl, rfl, rfl, h0, h1⟩ := trodAll_two hA
  obtain ⟨rfl, rfl⟩ := trodVars_none hV
  obtain ⟨a0, rfl, rfl, rfl, b0⟩ := open_int Try.underlying41 (hval 0 41 v0 rfl rfl) h0
  obtain ⟨A1, cap1, a1, rfl, b1, c1, e1⟩ := open_ws (hval 1 42 v1 rfl rfl) h1
  simp only [List.append_nil] at hW'
  refine (laorder_any a0 a1 _ A1 cap1 W (rngU32 b0) rfl b1 c1 e1).mono fun e W' ⟨he, hch⟩ => ?_
  subst he
  exact ⟨_, rfl, _, _, _, [], _, [], hW', trodAll_mk1 (shut_bool Try.underlying4 _), args_again (by rw [Try.params7]; exact of_decide_eq_true (by kernel_rfl)) hA0 hch.below, rfl, hch.below.frame _, fun h => by cases h⟩

theorem apportionOrder_k0 : (Rows.apportionOrderRow.wf (OpenSpec.ofChange Rows.apportionOrderSpec)) = true := by kernel_rfl
theorem apportionOrder_k1 : (laidOutB Try.pinned.checked.prog) = true := by kernel_rfl
theorem apportionOrder_k2 : (mapsRowed Try.pinned.checked.prog) = true := by kernel_rfl
theorem apportionOrder_k3 : (Try.f7.params.all (Try.pinned.checked.prog.readableRec ·)) = true := by kernel_rfl
theorem apportionOrder_k4 : (namedTie Try.pinned.checked.prog Rows.apportionOrderRow.named Rows.apportionOrderSpec.vars) = true := by kernel_rfl
theorem apportionOrder_k5 : (Rows.apportionOrderRow.stops == []) = true := by kernel_rfl
theorem apportionOrder_k6 : (Try.pinned.checked.prog.stops == []) = true := by kernel_rfl
theorem apportionOrder_k7 : (Rows.apportionOrderRow.knobs == []) = true := by kernel_rfl
theorem apportionOrder_k8 : (Try.pinned.checked.prog.stopKnobs == []) = true := by kernel_rfl
theorem apportionOrder_k9 : (Rows.apportionOrderRow.inPlace == Try.pinned.checked.prog.inPlace 7) = true := by kernel_rfl
theorem apportionOrder_k10 : (Rows.apportionOrderRow.unfollowed == Try.pinned.checked.prog.unfollowed 7) = true := by kernel_rfl
theorem apportionOrder_k11 : (Rows.apportionOrderRow.recurses == Try.pinned.checked.prog.recurses 7) = true := by kernel_rfl
theorem apportionOrder_k12 : (Rows.apportionOrderRow.named == Try.pinned.checked.prog.varsNamed 7) = true := by kernel_rfl
theorem apportionOrder_k13 : (Rows.apportionOrderRow.maps == (Try.f7.params.toList ++ Rows.apportionOrderSpec.plain.varTypes Try.pinned.checked.prog).any (Try.pinned.checked.prog.mapsRec ·)) = true := by kernel_rfl
theorem apportionOrder_k14 : (Rows.apportionOrderRow.ifaces == (Try.f7.params.toList ++ Rows.apportionOrderSpec.plain.varTypes Try.pinned.checked.prog).any (Try.pinned.checked.prog.ifacesRec ·)) = true := by kernel_rfl
theorem apportionOrder_k15 : (Rows.apportionOrderRow.mapsOut == Try.pinned.checked.prog.mapsAmong Try.f7.resultTypes.toList) = true := by kernel_rfl
theorem apportionOrder_k16 : (Rows.apportionOrderRow.loops == (Try.f7.params.toList ++ Rows.apportionOrderSpec.plain.varTypes Try.pinned.checked.prog).any (Try.pinned.checked.prog.loopsFrom ·)) = true := by kernel_rfl
theorem apportionOrder_k17 : (Rows.apportionOrderRow.wideKeys == (Try.f7.params.toList ++ Rows.apportionOrderSpec.plain.varTypes Try.pinned.checked.prog ++ Try.f7.resultTypes.toList).any (Try.pinned.checked.prog.wideKeysFrom ·)) = true := by kernel_rfl
theorem apportionOrder_k18 : (Rows.apportionOrderSpec.vars.all (Try.pinned.checked.prog.varReadable ·)) = true := by kernel_rfl
theorem apportionOrder_k19 : (Try.f7.resultTypes.all (fun t => Try.pinned.checked.prog.readableRec t && decide (t < Try.pinned.checked.prog.types.size))) = true := by kernel_rfl
theorem apportionOrder_k20 : (Rows.apportionOrderRow.ifacesOut == Try.f7.resultTypes.toList.any (Try.pinned.checked.prog.ifacesRec ·)) = true := by kernel_rfl
theorem apportionOrder_k21 : (Rows.apportionOrderRow.loopsOut == Try.f7.resultTypes.toList.any (Try.pinned.checked.prog.loopsFrom ·)) = true := by kernel_rfl
theorem apportionOrder_k22 : (Rows.apportionOrderRow.plainKeys == Try.pinned.checked.prog.plainKeys) = true := by kernel_rfl
theorem apportionOrder_k23 : (Rows.apportionOrderRow.shortTexts.isNone) = true := by kernel_rfl
theorem apportionOrder_k24 : (Try.pinned.checked.prog.stopsHeard) = true := by kernel_rfl
theorem apportionOrder_k25 : (Try.pinned.checked.prog.mayEnter) = true := by kernel_rfl
theorem apportionOrder_k26 : (Rows.apportionOrderRow.lifted == Try.pinned.checked.prog.liftsFinal) = true := by kernel_rfl
theorem apportionOrder_k27 : (Try.pinned.checked.prog.make == some Rows.apportionOrderRow.make) = true := by kernel_rfl
theorem apportionOrder_k28 : (Rows.apportionOrderRow.kinds == (if Rows.apportionOrderRow.domain.isEmpty then [] else Try.f7.params.toList.map fun t => match Try.pinned.checked.prog.underlying t with | some (.int k) => some k | _ => none)) = true := by kernel_rfl
theorem apportionOrder_k29 : (Rows.apportionOrderRow.pinned == Rows.apportionOrderRow.pinnedBy) = true := by kernel_rfl
theorem apportionOrder_k30 : (Rows.apportionOrderRow.veiled == (Try.f7.params.toList ++ Rows.apportionOrderSpec.plain.varTypes Try.pinned.checked.prog ++ Try.f7.resultTypes.toList).any (Try.pinned.checked.prog.veiledRec ·)) = true := by kernel_rfl
theorem apportionOrder_k31 : (Rows.apportionOrderRow.veiledFits Try.pinned.checked.prog Try.f7.params.toList (Try.f7.params.toList ++ Rows.apportionOrderSpec.plain.varTypes Try.pinned.checked.prog ++ Try.f7.resultTypes.toList)) = true := by kernel_rfl
set_option maxRecDepth 100000 in
theorem apportionOrder_closed : joinedFacts Try.pinned.checked.prog 7 Try.f7 Rows.apportionOrderSpec Rows.apportionOrderRow = true := by
  simp only [joinedFacts, Bool.and_eq_true]
  exact ⟨⟨⟨⟨⟨⟨⟨⟨⟨⟨⟨⟨⟨⟨⟨⟨⟨⟨⟨⟨⟨⟨⟨⟨⟨⟨⟨⟨⟨⟨⟨apportionOrder_k0, apportionOrder_k1⟩, apportionOrder_k2⟩, apportionOrder_k3⟩, apportionOrder_k4⟩, apportionOrder_k5⟩, apportionOrder_k6⟩, apportionOrder_k7⟩, apportionOrder_k8⟩, apportionOrder_k9⟩, apportionOrder_k10⟩, apportionOrder_k11⟩, apportionOrder_k12⟩, apportionOrder_k13⟩, apportionOrder_k14⟩, apportionOrder_k15⟩, apportionOrder_k16⟩, apportionOrder_k17⟩, apportionOrder_k18⟩, apportionOrder_k19⟩, apportionOrder_k20⟩, apportionOrder_k21⟩, apportionOrder_k22⟩, apportionOrder_k23⟩, apportionOrder_k24⟩, apportionOrder_k25⟩, apportionOrder_k26⟩, apportionOrder_k27⟩, apportionOrder_k28⟩, apportionOrder_k29⟩, apportionOrder_k30⟩, apportionOrder_k31⟩

theorem apportionOrder_holds : Rows.ApportionOrderSaid :=
  OpenClaim.holds_of_wide 7 Try.f7 rfl rfl rfl rfl rfl rfl rfl ⟨rfl, rfl, rfl, rfl, rfl⟩ rfl rfl rfl rfl rfl (by kernel_rfl) Try.func7 apportionOrder_closed
    (of_decide_eq_true (by kernel_rfl)) (by unfold Func.isWrapper; first | (rw [if_pos (by decide +kernel)]; kernel_rfl) | (rw [if_neg (by decide +kernel)]; exact ⟨rfl, rfl⟩))
    (fun os started H enc _ => apportionOrder_lifted os started H enc)

end Go.Proofs.Ytikeoiakicpleaa
