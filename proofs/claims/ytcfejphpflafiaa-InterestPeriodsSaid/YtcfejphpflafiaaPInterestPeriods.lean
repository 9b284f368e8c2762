/-
  InterestPeriods: for every input the law returns true: Compound agrees with the definition for valid steps, and refuses more than MaxSteps periods. No condition.
-/
import Derived.Test.YtcfejphpflafiaaIA4
import Derived.Test.YtcfejphpflafiaaFrameT
namespace Go.Proofs.Ytcfejphpflafiaa
open Go.RowKit Nd
open Go.ChangeShapes Go.WideShapes Go.ChangeAt
open Go.ChangeMaps (open_string shut_string)

set_option maxRecDepth 100000 in
theorem interestPeriods_lifted (os : Os) (started : os.Started) (H : Type) (enc : TypeId × Value → H) :
    ReturnsInHanded {} Try.checked os 8 .any (Rows.interestPeriodsSpec.pre6 enc Try.prog Try.f8 [] false) (Rows.interestPeriodsSpec.post enc Try.prog Try.f8 false true false false) := by
  refine returnsInHanded_of_change (C := Try.checked) own started (by kernel_rfl) Try.func8
    (ChangeSpec.witness6 (enc := enc) (C := Try.checked) false ⟨#[], #[.int .u16 0, .slice none 0 0, .int .u8 0, .int .u8 0, .int .u8 0], []⟩ 8 (by kernel_rfl) (by kernel_rfl) (by kernel_rfl) (by kernel_rfl)) ?_
  intro W base args ds gs before hval0 hW _ _
  have hval : ∀ (j : Nat) t v, Try.f8.params[j]? = some t → args[j]? = some v → Value.okWide Try.prog W .any base t v := hval0
  have hW' := hW
  obtain ⟨p, q, hA0, hV, rfl, _, _⟩ := hW
  have hA : DataW.TrodAll enc Try.prog W 0 (fun _ => true) true Try.f8.params.toList args.toList ds p := hA0
  rw [Try.params8] at hA hval
  obtain ⟨v0, v1, v2, v3, v4, d0, d1, d2, d3, d4, p0, p1, p2, p3, p4, rfl, rfl, rfl, h0, h1, h2, h3, h4⟩ := trodAll_five hA
  obtain ⟨rfl, rfl⟩ := trodVars_none hV
  obtain ⟨a0, rfl, rfl, rfl, b0⟩ := open_int Try.underlying39 (hval 0 39 v0 rfl rfl) h0
  obtain ⟨A1, cap1, a1, rfl, b1, c1, e1, g1⟩ := open_pairs (hval 1 40 v1 rfl rfl) h1
  obtain ⟨a2, rfl, rfl, rfl, b2⟩ := open_int Try.underlying5 (hval 2 5 v2 rfl rfl) h2
  obtain ⟨a3, rfl, rfl, rfl, b3⟩ := open_int Try.underlying5 (hval 3 5 v3 rfl rfl) h3
  obtain ⟨a4, rfl, rfl, rfl, b4⟩ := open_int Try.underlying5 (hval 4 5 v4 rfl rfl) h4
  simp only [List.append_nil] at hW'
  refine (lperiods_any a0 a1 a2 a3 a4 _ A1 cap1 W (rngU16 b0) (rngU8 b2) (rngU8 b3) (rngU8 b4) rfl g1 e1).mono fun e W' ⟨he, hch⟩ => ?_
  subst he
  exact ⟨_, rfl, _, _, _, [], _, [], hW', trodAll_mk1 (shut_bool Try.underlying4 _), args_again (by rw [Try.params8]; exact of_decide_eq_true (by kernel_rfl)) hA0 hch.below, rfl, hch.below.frame _, fun h => by cases h⟩

theorem interestPeriods_k0 : (Rows.interestPeriodsRow.wf (OpenSpec.ofChange Rows.interestPeriodsSpec)) = true := by kernel_rfl
theorem interestPeriods_k1 : (laidOutB Try.pinned.checked.prog) = true := by kernel_rfl
theorem interestPeriods_k2 : (mapsRowed Try.pinned.checked.prog) = true := by kernel_rfl
theorem interestPeriods_k3 : (Try.f8.params.all (Try.pinned.checked.prog.readableRec ·)) = true := by kernel_rfl
theorem interestPeriods_k4 : (namedTie Try.pinned.checked.prog Rows.interestPeriodsRow.named Rows.interestPeriodsSpec.vars) = true := by kernel_rfl
theorem interestPeriods_k5 : (Rows.interestPeriodsRow.stops == []) = true := by kernel_rfl
theorem interestPeriods_k6 : (Try.pinned.checked.prog.stops == []) = true := by kernel_rfl
theorem interestPeriods_k7 : (Rows.interestPeriodsRow.knobs == []) = true := by kernel_rfl
theorem interestPeriods_k8 : (Try.pinned.checked.prog.stopKnobs == []) = true := by kernel_rfl
theorem interestPeriods_k9 : (Rows.interestPeriodsRow.inPlace == Try.pinned.checked.prog.inPlace 8) = true := by kernel_rfl
theorem interestPeriods_k10 : (Rows.interestPeriodsRow.unfollowed == Try.pinned.checked.prog.unfollowed 8) = true := by kernel_rfl
theorem interestPeriods_k11 : (Rows.interestPeriodsRow.recurses == Try.pinned.checked.prog.recurses 8) = true := by kernel_rfl
theorem interestPeriods_k12 : (Rows.interestPeriodsRow.named == Try.pinned.checked.prog.varsNamed 8) = true := by kernel_rfl
theorem interestPeriods_k13 : (Rows.interestPeriodsRow.maps == (Try.f8.params.toList ++ Rows.interestPeriodsSpec.plain.varTypes Try.pinned.checked.prog).any (Try.pinned.checked.prog.mapsRec ·)) = true := by kernel_rfl
theorem interestPeriods_k14 : (Rows.interestPeriodsRow.ifaces == (Try.f8.params.toList ++ Rows.interestPeriodsSpec.plain.varTypes Try.pinned.checked.prog).any (Try.pinned.checked.prog.ifacesRec ·)) = true := by kernel_rfl
theorem interestPeriods_k15 : (Rows.interestPeriodsRow.mapsOut == Try.pinned.checked.prog.mapsAmong Try.f8.resultTypes.toList) = true := by kernel_rfl
theorem interestPeriods_k16 : (Rows.interestPeriodsRow.loops == (Try.f8.params.toList ++ Rows.interestPeriodsSpec.plain.varTypes Try.pinned.checked.prog).any (Try.pinned.checked.prog.loopsFrom ·)) = true := by kernel_rfl
theorem interestPeriods_k17 : (Rows.interestPeriodsRow.wideKeys == (Try.f8.params.toList ++ Rows.interestPeriodsSpec.plain.varTypes Try.pinned.checked.prog ++ Try.f8.resultTypes.toList).any (Try.pinned.checked.prog.wideKeysFrom ·)) = true := by kernel_rfl
theorem interestPeriods_k18 : (Rows.interestPeriodsSpec.vars.all (Try.pinned.checked.prog.varReadable ·)) = true := by kernel_rfl
theorem interestPeriods_k19 : (Try.f8.resultTypes.all (fun t => Try.pinned.checked.prog.readableRec t && decide (t < Try.pinned.checked.prog.types.size))) = true := by kernel_rfl
theorem interestPeriods_k20 : (Rows.interestPeriodsRow.ifacesOut == Try.f8.resultTypes.toList.any (Try.pinned.checked.prog.ifacesRec ·)) = true := by kernel_rfl
theorem interestPeriods_k21 : (Rows.interestPeriodsRow.loopsOut == Try.f8.resultTypes.toList.any (Try.pinned.checked.prog.loopsFrom ·)) = true := by kernel_rfl
theorem interestPeriods_k22 : (Rows.interestPeriodsRow.plainKeys == Try.pinned.checked.prog.plainKeys) = true := by kernel_rfl
theorem interestPeriods_k23 : (Rows.interestPeriodsRow.shortTexts.isNone) = true := by kernel_rfl
theorem interestPeriods_k24 : (Try.pinned.checked.prog.stopsHeard) = true := by kernel_rfl
theorem interestPeriods_k25 : (Try.pinned.checked.prog.mayEnter) = true := by kernel_rfl
theorem interestPeriods_k26 : (Rows.interestPeriodsRow.lifted == Try.pinned.checked.prog.liftsFinal) = true := by kernel_rfl
theorem interestPeriods_k27 : (Try.pinned.checked.prog.make == some Rows.interestPeriodsRow.make) = true := by kernel_rfl
theorem interestPeriods_k28 : (Rows.interestPeriodsRow.kinds == (if Rows.interestPeriodsRow.domain.isEmpty then [] else Try.f8.params.toList.map fun t => match Try.pinned.checked.prog.underlying t with | some (.int k) => some k | _ => none)) = true := by kernel_rfl
theorem interestPeriods_k29 : (Rows.interestPeriodsRow.pinned == Rows.interestPeriodsRow.pinnedBy) = true := by kernel_rfl
theorem interestPeriods_k30 : (Rows.interestPeriodsRow.veiled == (Try.f8.params.toList ++ Rows.interestPeriodsSpec.plain.varTypes Try.pinned.checked.prog ++ Try.f8.resultTypes.toList).any (Try.pinned.checked.prog.veiledRec ·)) = true := by kernel_rfl
theorem interestPeriods_k31 : (Rows.interestPeriodsRow.veiledFits Try.pinned.checked.prog Try.f8.params.toList (Try.f8.params.toList ++ Rows.interestPeriodsSpec.plain.varTypes Try.pinned.checked.prog ++ Try.f8.resultTypes.toList)) = true := by kernel_rfl
set_option maxRecDepth 100000 in
theorem interestPeriods_closed : joinedFacts Try.pinned.checked.prog 8 Try.f8 Rows.interestPeriodsSpec Rows.interestPeriodsRow = true := by
  simp only [joinedFacts, Bool.and_eq_true]
  exact ⟨⟨⟨⟨⟨⟨⟨⟨⟨⟨⟨⟨⟨⟨⟨⟨⟨⟨⟨⟨⟨⟨⟨⟨⟨⟨⟨⟨⟨⟨⟨interestPeriods_k0, interestPeriods_k1⟩, interestPeriods_k2⟩, interestPeriods_k3⟩, interestPeriods_k4⟩, interestPeriods_k5⟩, interestPeriods_k6⟩, interestPeriods_k7⟩, interestPeriods_k8⟩, interestPeriods_k9⟩, interestPeriods_k10⟩, interestPeriods_k11⟩, interestPeriods_k12⟩, interestPeriods_k13⟩, interestPeriods_k14⟩, interestPeriods_k15⟩, interestPeriods_k16⟩, interestPeriods_k17⟩, interestPeriods_k18⟩, interestPeriods_k19⟩, interestPeriods_k20⟩, interestPeriods_k21⟩, interestPeriods_k22⟩, interestPeriods_k23⟩, interestPeriods_k24⟩, interestPeriods_k25⟩, interestPeriods_k26⟩, interestPeriods_k27⟩, interestPeriods_k28⟩, interestPeriods_k29⟩, interestPeriods_k30⟩, interestPeriods_k31⟩

theorem interestPeriods_holds : Rows.InterestPeriodsSaid :=
  OpenClaim.holds_of_wide 8 Try.f8 rfl rfl rfl rfl rfl rfl rfl ⟨rfl, rfl, rfl, rfl, rfl⟩ rfl rfl rfl rfl rfl (by kernel_rfl) Try.func8 interestPeriods_closed
    (of_decide_eq_true (by kernel_rfl)) (by unfold Func.isWrapper; first | (rw [if_pos (by decide +kernel)]; kernel_rfl) | (rw [if_neg (by decide +kernel)]; exact ⟨rfl, rfl⟩))
    (fun os started H enc _ => interestPeriods_lifted os started H enc)

end Go.Proofs.Ytcfejphpflafiaa
