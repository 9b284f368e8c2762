/-
  CurrencyCheck: for every input the law returns true: Check agrees with the definition for arbitrary quotes. No condition.
-/
import Derived.Test.YtkdcffcgedhllaaKL1
import Derived.Test.YtkdcffcgedhllaaFrameK
namespace Go.Proofs.Ytkdcffcgedhllaa
open Go.RowKit Nd
open Go.ChangeShapes Go.WideShapes Go.ChangeAt
open Go.ChangeMaps (open_string shut_string)

set_option maxRecDepth 100000 in
theorem currencyCheck_lifted (os : Os) (started : os.Started) (H : Type) (enc : TypeId × Value → H) :
    ReturnsInHanded {} Try.checked os 3 .any (Rows.currencyCheckSpec.pre6 enc Try.prog Try.f3 [] false) (Rows.currencyCheckSpec.post enc Try.prog Try.f3 false true false false) := by
  refine returnsInHanded_of_change (C := Try.checked) own started (by kernel_rfl) Try.func3
    (ChangeSpec.witness6 (enc := enc) (C := Try.checked) false ⟨#[], #[.slice none 0 0], []⟩ 8 (by kernel_rfl) (by kernel_rfl) (by kernel_rfl) (by kernel_rfl)) ?_
  intro W base args ds gs before hval0 hW _ _
  have hval : ∀ (j : Nat) t v, Try.f3.params[j]? = some t → args[j]? = some v → Value.okWide Try.prog W .any base t v := hval0
  have hW' := hW
  obtain ⟨p, q, hA0, hV, rfl, _, _⟩ := hW
  have hA : DataW.TrodAll enc Try.prog W 0 (fun _ => true) true Try.f3.params.toList args.toList ds p := hA0
  rw [Try.params3] at hA hval
  obtain ⟨v0, d0, rfl, rfl, h0⟩ := trodAll_one hA
  obtain ⟨rfl, rfl⟩ := trodVars_none hV
  obtain ⟨A0, cap0, a0, rfl, b0, c0, e0⟩ := open_qts (hval 0 22 v0 rfl rfl) h0
  simp only [List.append_nil] at hW'
  refine (lqcheck_any a0 _ A0 cap0 W rfl b0 c0 e0).mono fun e W' ⟨he, hch⟩ => ?_
  subst he
  exact ⟨_, rfl, _, _, _, [], _, [], hW', trodAll_mk1 (shut_bool Try.underlying4 _), args_again (by rw [Try.params3]; exact of_decide_eq_true (by kernel_rfl)) hA0 hch.below, rfl, hch.below.frame _, fun h => by cases h⟩

theorem currencyCheck_k0 : (Rows.currencyCheckRow.wf (OpenSpec.ofChange Rows.currencyCheckSpec)) = true := by kernel_rfl
theorem currencyCheck_k1 : (laidOutB Try.pinned.checked.prog) = true := by kernel_rfl
theorem currencyCheck_k2 : (mapsRowed Try.pinned.checked.prog) = true := by kernel_rfl
theorem currencyCheck_k3 : (Try.f3.params.all (Try.pinned.checked.prog.readableRec ·)) = true := by kernel_rfl
theorem currencyCheck_k4 : (namedTie Try.pinned.checked.prog Rows.currencyCheckRow.named Rows.currencyCheckSpec.vars) = true := by kernel_rfl
theorem currencyCheck_k5 : (Rows.currencyCheckRow.stops == []) = true := by kernel_rfl
theorem currencyCheck_k6 : (Try.pinned.checked.prog.stops == []) = true := by kernel_rfl
theorem currencyCheck_k7 : (Rows.currencyCheckRow.knobs == []) = true := by kernel_rfl
theorem currencyCheck_k8 : (Try.pinned.checked.prog.stopKnobs == []) = true := by kernel_rfl
theorem currencyCheck_k9 : (Rows.currencyCheckRow.inPlace == Try.pinned.checked.prog.inPlace 3) = true := by kernel_rfl
theorem currencyCheck_k10 : (Rows.currencyCheckRow.unfollowed == Try.pinned.checked.prog.unfollowed 3) = true := by kernel_rfl
theorem currencyCheck_k11 : (Rows.currencyCheckRow.recurses == Try.pinned.checked.prog.recurses 3) = true := by kernel_rfl
theorem currencyCheck_k12 : (Rows.currencyCheckRow.named == Try.pinned.checked.prog.varsNamed 3) = true := by kernel_rfl
theorem currencyCheck_k13 : (Rows.currencyCheckRow.maps == (Try.f3.params.toList ++ Rows.currencyCheckSpec.plain.varTypes Try.pinned.checked.prog).any (Try.pinned.checked.prog.mapsRec ·)) = true := by kernel_rfl
theorem currencyCheck_k14 : (Rows.currencyCheckRow.ifaces == (Try.f3.params.toList ++ Rows.currencyCheckSpec.plain.varTypes Try.pinned.checked.prog).any (Try.pinned.checked.prog.ifacesRec ·)) = true := by kernel_rfl
theorem currencyCheck_k15 : (Rows.currencyCheckRow.mapsOut == Try.pinned.checked.prog.mapsAmong Try.f3.resultTypes.toList) = true := by kernel_rfl
theorem currencyCheck_k16 : (Rows.currencyCheckRow.loops == (Try.f3.params.toList ++ Rows.currencyCheckSpec.plain.varTypes Try.pinned.checked.prog).any (Try.pinned.checked.prog.loopsFrom ·)) = true := by kernel_rfl
theorem currencyCheck_k17 : (Rows.currencyCheckRow.wideKeys == (Try.f3.params.toList ++ Rows.currencyCheckSpec.plain.varTypes Try.pinned.checked.prog ++ Try.f3.resultTypes.toList).any (Try.pinned.checked.prog.wideKeysFrom ·)) = true := by kernel_rfl
theorem currencyCheck_k18 : (Rows.currencyCheckSpec.vars.all (Try.pinned.checked.prog.varReadable ·)) = true := by kernel_rfl
theorem currencyCheck_k19 : (Try.f3.resultTypes.all (fun t => Try.pinned.checked.prog.readableRec t && decide (t < Try.pinned.checked.prog.types.size))) = true := by kernel_rfl
theorem currencyCheck_k20 : (Rows.currencyCheckRow.ifacesOut == Try.f3.resultTypes.toList.any (Try.pinned.checked.prog.ifacesRec ·)) = true := by kernel_rfl
theorem currencyCheck_k21 : (Rows.currencyCheckRow.loopsOut == Try.f3.resultTypes.toList.any (Try.pinned.checked.prog.loopsFrom ·)) = true := by kernel_rfl
theorem currencyCheck_k22 : (Rows.currencyCheckRow.plainKeys == Try.pinned.checked.prog.plainKeys) = true := by kernel_rfl
theorem currencyCheck_k23 : (Rows.currencyCheckRow.shortTexts.isNone) = true := by kernel_rfl
theorem currencyCheck_k24 : (Try.pinned.checked.prog.stopsHeard) = true := by kernel_rfl
theorem currencyCheck_k25 : (Try.pinned.checked.prog.mayEnter) = true := by kernel_rfl
theorem currencyCheck_k26 : (Rows.currencyCheckRow.lifted == Try.pinned.checked.prog.liftsFinal) = true := by kernel_rfl
theorem currencyCheck_k27 : (Try.pinned.checked.prog.make == some Rows.currencyCheckRow.make) = true := by kernel_rfl
theorem currencyCheck_k28 : (Rows.currencyCheckRow.kinds == (if Rows.currencyCheckRow.domain.isEmpty then [] else Try.f3.params.toList.map fun t => match Try.pinned.checked.prog.underlying t with | some (.int k) => some k | _ => none)) = true := by kernel_rfl
theorem currencyCheck_k29 : (Rows.currencyCheckRow.pinned == Rows.currencyCheckRow.pinnedBy) = true := by kernel_rfl
theorem currencyCheck_k30 : (Rows.currencyCheckRow.veiled == (Try.f3.params.toList ++ Rows.currencyCheckSpec.plain.varTypes Try.pinned.checked.prog ++ Try.f3.resultTypes.toList).any (Try.pinned.checked.prog.veiledRec ·)) = true := by kernel_rfl
theorem currencyCheck_k31 : (Rows.currencyCheckRow.veiledFits Try.pinned.checked.prog Try.f3.params.toList (Try.f3.params.toList ++ Rows.currencyCheckSpec.plain.varTypes Try.pinned.checked.prog ++ Try.f3.resultTypes.toList)) = true := by kernel_rfl
set_option maxRecDepth 100000 in
theorem currencyCheck_closed : joinedFacts Try.pinned.checked.prog 3 Try.f3 Rows.currencyCheckSpec Rows.currencyCheckRow = true := by
  simp only [joinedFacts, Bool.and_eq_true]
  exact ⟨⟨⟨⟨⟨⟨⟨⟨⟨⟨⟨⟨⟨⟨⟨⟨⟨⟨⟨⟨⟨⟨⟨⟨⟨⟨⟨⟨⟨⟨⟨currencyCheck_k0, currencyCheck_k1⟩, currencyCheck_k2⟩, currencyCheck_k3⟩, currencyCheck_k4⟩, currencyCheck_k5⟩, currencyCheck_k6⟩, currencyCheck_k7⟩, currencyCheck_k8⟩, currencyCheck_k9⟩, currencyCheck_k10⟩, currencyCheck_k11⟩, currencyCheck_k12⟩, currencyCheck_k13⟩, currencyCheck_k14⟩, currencyCheck_k15⟩, currencyCheck_k16⟩, currencyCheck_k17⟩, currencyCheck_k18⟩, currencyCheck_k19⟩, currencyCheck_k20⟩, currencyCheck_k21⟩, currencyCheck_k22⟩, currencyCheck_k23⟩, currencyCheck_k24⟩, currencyCheck_k25⟩, currencyCheck_k26⟩, currencyCheck_k27⟩, currencyCheck_k28⟩, currencyCheck_k29⟩, currencyCheck_k30⟩, currencyCheck_k31⟩

theorem currencyCheck_holds : Rows.CurrencyCheckSaid :=
  OpenClaim.holds_of_wide 3 Try.f3 rfl rfl rfl rfl rfl rfl rfl ⟨rfl, rfl, rfl, rfl, rfl⟩ rfl rfl rfl rfl rfl (by kernel_rfl) Try.func3 currencyCheck_closed
    (of_decide_eq_true (by kernel_rfl)) (by unfold Func.isWrapper; first | (rw [if_pos (by decide +kernel)]; kernel_rfl) | (rw [if_neg (by decide +kernel)]; exact ⟨rfl, rfl⟩))
    (fun os started H enc _ => currencyCheck_lifted os started H enc)

end Go.Proofs.Ytkdcffcgedhllaa
