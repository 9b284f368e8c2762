/-
  InterestRate: for every input the law returns true: Rate agrees with the definition for arbitrary steps and days. No condition.
-/
import Derived.Test.YtcfejphpflafiaaIA0
import Derived.Test.YtcfejphpflafiaaFrameS
namespace Go.Proofs.Ytcfejphpflafiaa
open Go.RowKit Nd
open Go.ChangeShapes Go.WideShapes Go.ChangeAt
open Go.ChangeMaps (open_string shut_string)

theorem i64rng {a : Int} (h : (Lit.int .i64 a).wf = true) : -9223372036854775808 ≤ a ∧ a ≤ 9223372036854775807 := by simpa [Lit.wf, IntKind.min, IntKind.max, IntKind.signed, IntKind.bits] using h

set_option maxRecDepth 100000 in
theorem interestRate_lifted (os : Os) (started : os.Started) (H : Type) (enc : TypeId × Value → H) :
    ReturnsInHanded {} Try.checked os 4 .any (Rows.interestRateSpec.pre6 enc Try.prog Try.f4 [] false) (Rows.interestRateSpec.post enc Try.prog Try.f4 false true false false) := by
  refine returnsInHanded_of_change (C := Try.checked) own started (by kernel_rfl) Try.func4
    (ChangeSpec.witness6 (enc := enc) (C := Try.checked) false ⟨#[], #[.slice none 0 0, .int .i64 0], []⟩ 8 (by kernel_rfl) (by kernel_rfl) (by kernel_rfl) (by kernel_rfl)) ?_
  intro W base args ds gs before hval0 hW _ _
  have hval : ∀ (j : Nat) t v, Try.f4.params[j]? = some t → args[j]? = some v → Value.okWide Try.prog W .any base t v := hval0
  have hW' := hW
  obtain ⟨p, q, hA0, hV, rfl, _, _⟩ := hW
  have hA : DataW.TrodAll enc Try.prog W 0 (fun _ => true) true Try.f4.params.toList args.toList ds p := hA0
  rw [Try.params4] at hA hval
  obtain ⟨v0, v1, d0, d1, p0, p1, rfl, rfl, rfl, h0, h1⟩ := trodAll_two hA
  obtain ⟨rfl, rfl⟩ := trodVars_none hV
  obtain ⟨A0, cap0, a0, rfl, b0, c0, e0⟩ := open_steps (hval 0 22 v0 rfl rfl) h0
  obtain ⟨a1, rfl, rfl, rfl, b1⟩ := open_int Try.underlying3 (hval 1 3 v1 rfl rfl) h1
  simp only [List.append_nil] at hW'
  refine (lrate_any a0 a1 _ A0 cap0 W rfl e0).mono fun e W' ⟨he, hch⟩ => ?_
  subst he
  exact ⟨_, rfl, _, _, _, [], _, [], hW', trodAll_mk1 (shut_bool Try.underlying4 _), args_again (by rw [Try.params4]; exact of_decide_eq_true (by kernel_rfl)) hA0 hch.below, rfl, hch.below.frame _, fun h => by cases h⟩

theorem interestRate_k0 : (Rows.interestRateRow.wf (OpenSpec.ofChange Rows.interestRateSpec)) = true := by kernel_rfl
theorem interestRate_k1 : (laidOutB Try.pinned.checked.prog) = true := by kernel_rfl
theorem interestRate_k2 : (mapsRowed Try.pinned.checked.prog) = true := by kernel_rfl
theorem interestRate_k3 : (Try.f4.params.all (Try.pinned.checked.prog.readableRec ·)) = true := by kernel_rfl
theorem interestRate_k4 : (namedTie Try.pinned.checked.prog Rows.interestRateRow.named Rows.interestRateSpec.vars) = true := by kernel_rfl
theorem interestRate_k5 : (Rows.interestRateRow.stops == []) = true := by kernel_rfl
theorem interestRate_k6 : (Try.pinned.checked.prog.stops == []) = true := by kernel_rfl
theorem interestRate_k7 : (Rows.interestRateRow.knobs == []) = true := by kernel_rfl
theorem interestRate_k8 : (Try.pinned.checked.prog.stopKnobs == []) = true := by kernel_rfl
theorem interestRate_k9 : (Rows.interestRateRow.inPlace == Try.pinned.checked.prog.inPlace 4) = true := by kernel_rfl
theorem interestRate_k10 : (Rows.interestRateRow.unfollowed == Try.pinned.checked.prog.unfollowed 4) = true := by kernel_rfl
theorem interestRate_k11 : (Rows.interestRateRow.recurses == Try.pinned.checked.prog.recurses 4) = true := by kernel_rfl
theorem interestRate_k12 : (Rows.interestRateRow.named == Try.pinned.checked.prog.varsNamed 4) = true := by kernel_rfl
theorem interestRate_k13 : (Rows.interestRateRow.maps == (Try.f4.params.toList ++ Rows.interestRateSpec.plain.varTypes Try.pinned.checked.prog).any (Try.pinned.checked.prog.mapsRec ·)) = true := by kernel_rfl
theorem interestRate_k14 : (Rows.interestRateRow.ifaces == (Try.f4.params.toList ++ Rows.interestRateSpec.plain.varTypes Try.pinned.checked.prog).any (Try.pinned.checked.prog.ifacesRec ·)) = true := by kernel_rfl
theorem interestRate_k15 : (Rows.interestRateRow.mapsOut == Try.pinned.checked.prog.mapsAmong Try.f4.resultTypes.toList) = true := by kernel_rfl
theorem interestRate_k16 : (Rows.interestRateRow.loops == (Try.f4.params.toList ++ Rows.interestRateSpec.plain.varTypes Try.pinned.checked.prog).any (Try.pinned.checked.prog.loopsFrom ·)) = true := by kernel_rfl
theorem interestRate_k17 : (Rows.interestRateRow.wideKeys == (Try.f4.params.toList ++ Rows.interestRateSpec.plain.varTypes Try.pinned.checked.prog ++ Try.f4.resultTypes.toList).any (Try.pinned.checked.prog.wideKeysFrom ·)) = true := by kernel_rfl
theorem interestRate_k18 : (Rows.interestRateSpec.vars.all (Try.pinned.checked.prog.varReadable ·)) = true := by kernel_rfl
theorem interestRate_k19 : (Try.f4.resultTypes.all (fun t => Try.pinned.checked.prog.readableRec t && decide (t < Try.pinned.checked.prog.types.size))) = true := by kernel_rfl
theorem interestRate_k20 : (Rows.interestRateRow.ifacesOut == Try.f4.resultTypes.toList.any (Try.pinned.checked.prog.ifacesRec ·)) = true := by kernel_rfl
theorem interestRate_k21 : (Rows.interestRateRow.loopsOut == Try.f4.resultTypes.toList.any (Try.pinned.checked.prog.loopsFrom ·)) = true := by kernel_rfl
theorem interestRate_k22 : (Rows.interestRateRow.plainKeys == Try.pinned.checked.prog.plainKeys) = true := by kernel_rfl
theorem interestRate_k23 : (Rows.interestRateRow.shortTexts.isNone) = true := by kernel_rfl
theorem interestRate_k24 : (Try.pinned.checked.prog.stopsHeard) = true := by kernel_rfl
theorem interestRate_k25 : (Try.pinned.checked.prog.mayEnter) = true := by kernel_rfl
theorem interestRate_k26 : (Rows.interestRateRow.lifted == Try.pinned.checked.prog.liftsFinal) = true := by kernel_rfl
theorem interestRate_k27 : (Try.pinned.checked.prog.make == some Rows.interestRateRow.make) = true := by kernel_rfl
theorem interestRate_k28 : (Rows.interestRateRow.kinds == (if Rows.interestRateRow.domain.isEmpty then [] else Try.f4.params.toList.map fun t => match Try.pinned.checked.prog.underlying t with | some (.int k) => some k | _ => none)) = true := by kernel_rfl
theorem interestRate_k29 : (Rows.interestRateRow.pinned == Rows.interestRateRow.pinnedBy) = true := by kernel_rfl
theorem interestRate_k30 : (Rows.interestRateRow.veiled == (Try.f4.params.toList ++ Rows.interestRateSpec.plain.varTypes Try.pinned.checked.prog ++ Try.f4.resultTypes.toList).any (Try.pinned.checked.prog.veiledRec ·)) = true := by kernel_rfl
theorem interestRate_k31 : (Rows.interestRateRow.veiledFits Try.pinned.checked.prog Try.f4.params.toList (Try.f4.params.toList ++ Rows.interestRateSpec.plain.varTypes Try.pinned.checked.prog ++ Try.f4.resultTypes.toList)) = true := by kernel_rfl
set_option maxRecDepth 100000 in
theorem interestRate_closed : joinedFacts Try.pinned.checked.prog 4 Try.f4 Rows.interestRateSpec Rows.interestRateRow = true := by
  simp only [joinedFacts, Bool.and_eq_true]
  exact ⟨⟨⟨⟨⟨⟨⟨⟨⟨⟨⟨⟨⟨⟨⟨⟨⟨⟨⟨⟨⟨⟨⟨⟨⟨⟨⟨⟨⟨⟨⟨interestRate_k0, interestRate_k1⟩, interestRate_k2⟩, interestRate_k3⟩, interestRate_k4⟩, interestRate_k5⟩, interestRate_k6⟩, interestRate_k7⟩, interestRate_k8⟩, interestRate_k9⟩, interestRate_k10⟩, interestRate_k11⟩, interestRate_k12⟩, interestRate_k13⟩, interestRate_k14⟩, interestRate_k15⟩, interestRate_k16⟩, interestRate_k17⟩, interestRate_k18⟩, interestRate_k19⟩, interestRate_k20⟩, interestRate_k21⟩, interestRate_k22⟩, interestRate_k23⟩, interestRate_k24⟩, interestRate_k25⟩, interestRate_k26⟩, interestRate_k27⟩, interestRate_k28⟩, interestRate_k29⟩, interestRate_k30⟩, interestRate_k31⟩

theorem interestRate_holds : Rows.InterestRateSaid :=
  OpenClaim.holds_of_wide 4 Try.f4 rfl rfl rfl rfl rfl rfl rfl ⟨rfl, rfl, rfl, rfl, rfl⟩ rfl rfl rfl rfl rfl (by kernel_rfl) Try.func4 interestRate_closed
    (of_decide_eq_true (by kernel_rfl)) (by unfold Func.isWrapper; first | (rw [if_pos (by decide +kernel)]; kernel_rfl) | (rw [if_neg (by decide +kernel)]; exact ⟨rfl, rfl⟩))
    (fun os started H enc _ => interestRate_lifted os started H enc)

end Go.Proofs.Ytcfejphpflafiaa
