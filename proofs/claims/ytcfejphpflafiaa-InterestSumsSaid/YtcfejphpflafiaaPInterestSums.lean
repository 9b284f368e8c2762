/-
  InterestSums: for every input the law returns true: simple interest is the sum of the rates of all days, one by one. No condition.
-/
import Derived.Test.YtcfejphpflafiaaIA3
import Derived.Test.YtcfejphpflafiaaFrameS
namespace Go.Proofs.Ytcfejphpflafiaa
open Go.RowKit Nd
open Go.ChangeShapes Go.WideShapes Go.ChangeAt
open Go.ChangeMaps (open_string shut_string)

set_option maxRecDepth 100000 in
theorem interestSums_lifted (os : Os) (started : os.Started) (H : Type) (enc : TypeId × Value → H) :
    ReturnsInHanded {} Try.checked os 6 .any (Rows.interestSumsSpec.pre6 enc Try.prog Try.f6 [] false) (Rows.interestSumsSpec.post enc Try.prog Try.f6 false true false false) := by
  refine returnsInHanded_of_change (C := Try.checked) own started (by kernel_rfl) Try.func6
    (ChangeSpec.witness6 (enc := enc) (C := Try.checked) false ⟨#[], #[.int .u16 0, .slice none 0 0, .int .u8 0, .int .u8 0], []⟩ 8 (by kernel_rfl) (by kernel_rfl) (by kernel_rfl) (by kernel_rfl)) ?_
  intro W base args ds gs before hval0 hW _ _
  have hval : ∀ (j : Nat) t v, Try.f6.params[j]? = some t → args[j]? = some v → Value.okWide Try.prog W .any base t v := hval0
  have hW' := hW
  obtain ⟨p, q, hA0, hV, rfl, _, _⟩ := hW
  have hA : DataW.TrodAll enc Try.prog W 0 (fun _ => true) true Try.f6.params.toList args.toList ds p := hA0
  rw [Try.params6] at hA hval
  obtain ⟨v0, v1, v2, v3, d0, d1, d2, d3, p0, p1, p2, p3, rfl, rfl, rfl, h0, h1, h2, h3⟩ := trodAll_four hA
  obtain ⟨rfl, rfl⟩ := trodVars_none hV
  obtain ⟨a0, rfl, rfl, rfl, b0⟩ := open_int Try.underlying39 (hval 0 39 v0 rfl rfl) h0
  obtain ⟨A1, cap1, a1, rfl, b1, c1, e1, g1⟩ := open_pairs (hval 1 40 v1 rfl rfl) h1
  obtain ⟨a2, rfl, rfl, rfl, b2⟩ := open_int Try.underlying5 (hval 2 5 v2 rfl rfl) h2
  obtain ⟨a3, rfl, rfl, rfl, b3⟩ := open_int Try.underlying5 (hval 3 5 v3 rfl rfl) h3
  simp only [List.append_nil] at hW'
  refine (lsums_any a0 a1 a2 a3 _ A1 cap1 W (rngU16 b0) (rngU8 b2) (rngU8 b3) rfl g1 e1).mono fun e W' ⟨he, hch⟩ => ?_
  subst he
  exact ⟨_, rfl, _, _, _, [], _, [], hW', trodAll_mk1 (shut_bool Try.underlying4 _), args_again (by rw [Try.params6]; exact of_decide_eq_true (by kernel_rfl)) hA0 hch.below, rfl, hch.below.frame _, fun h => by cases h⟩

theorem interestSums_k0 : (Rows.interestSumsRow.wf (OpenSpec.ofChange Rows.interestSumsSpec)) = true := by kernel_rfl
theorem interestSums_k1 : (laidOutB Try.pinned.checked.prog) = true := by kernel_rfl
theorem interestSums_k2 : (mapsRowed Try.pinned.checked.prog) = true := by kernel_rfl
theorem interestSums_k3 : (Try.f6.params.all (Try.pinned.checked.prog.readableRec ·)) = true := by kernel_rfl
theorem interestSums_k4 : (namedTie Try.pinned.checked.prog Rows.interestSumsRow.named Rows.interestSumsSpec.vars) = true := by kernel_rfl
theorem interestSums_k5 : (Rows.interestSumsRow.stops == []) = true := by kernel_rfl
theorem interestSums_k6 : (Try.pinned.checked.prog.stops == []) = true := by kernel_rfl
theorem interestSums_k7 : (Rows.interestSumsRow.knobs == []) = true := by kernel_rfl
theorem interestSums_k8 : (Try.pinned.checked.prog.stopKnobs == []) = true := by kernel_rfl
theorem interestSums_k9 : (Rows.interestSumsRow.inPlace == Try.pinned.checked.prog.inPlace 6) = true := by kernel_rfl
theorem interestSums_k10 : (Rows.interestSumsRow.unfollowed == Try.pinned.checked.prog.unfollowed 6) = true := by kernel_rfl
theorem interestSums_k11 : (Rows.interestSumsRow.recurses == Try.pinned.checked.prog.recurses 6) = true := by kernel_rfl
theorem interestSums_k12 : (Rows.interestSumsRow.named == Try.pinned.checked.prog.varsNamed 6) = true := by kernel_rfl
theorem interestSums_k13 : (Rows.interestSumsRow.maps == (Try.f6.params.toList ++ Rows.interestSumsSpec.plain.varTypes Try.pinned.checked.prog).any (Try.pinned.checked.prog.mapsRec ·)) = true := by kernel_rfl
theorem interestSums_k14 : (Rows.interestSumsRow.ifaces == (Try.f6.params.toList ++ Rows.interestSumsSpec.plain.varTypes Try.pinned.checked.prog).any (Try.pinned.checked.prog.ifacesRec ·)) = true := by kernel_rfl
theorem interestSums_k15 : (Rows.interestSumsRow.mapsOut == Try.pinned.checked.prog.mapsAmong Try.f6.resultTypes.toList) = true := by kernel_rfl
theorem interestSums_k16 : (Rows.interestSumsRow.loops == (Try.f6.params.toList ++ Rows.interestSumsSpec.plain.varTypes Try.pinned.checked.prog).any (Try.pinned.checked.prog.loopsFrom ·)) = true := by kernel_rfl
theorem interestSums_k17 : (Rows.interestSumsRow.wideKeys == (Try.f6.params.toList ++ Rows.interestSumsSpec.plain.varTypes Try.pinned.checked.prog ++ Try.f6.resultTypes.toList).any (Try.pinned.checked.prog.wideKeysFrom ·)) = true := by kernel_rfl
theorem interestSums_k18 : (Rows.interestSumsSpec.vars.all (Try.pinned.checked.prog.varReadable ·)) = true := by kernel_rfl
theorem interestSums_k19 : (Try.f6.resultTypes.all (fun t => Try.pinned.checked.prog.readableRec t && decide (t < Try.pinned.checked.prog.types.size))) = true := by kernel_rfl
theorem interestSums_k20 : (Rows.interestSumsRow.ifacesOut == Try.f6.resultTypes.toList.any (Try.pinned.checked.prog.ifacesRec ·)) = true := by kernel_rfl
theorem interestSums_k21 : (Rows.interestSumsRow.loopsOut == Try.f6.resultTypes.toList.any (Try.pinned.checked.prog.loopsFrom ·)) = true := by kernel_rfl
theorem interestSums_k22 : (Rows.interestSumsRow.plainKeys == Try.pinned.checked.prog.plainKeys) = true := by kernel_rfl
theorem interestSums_k23 : (Rows.interestSumsRow.shortTexts.isNone) = true := by kernel_rfl
theorem interestSums_k24 : (Try.pinned.checked.prog.stopsHeard) = true := by kernel_rfl
theorem interestSums_k25 : (Try.pinned.checked.prog.mayEnter) = true := by kernel_rfl
theorem interestSums_k26 : (Rows.interestSumsRow.lifted == Try.pinned.checked.prog.liftsFinal) = true := by kernel_rfl
theorem interestSums_k27 : (Try.pinned.checked.prog.make == some Rows.interestSumsRow.make) = true := by kernel_rfl
theorem interestSums_k28 : (Rows.interestSumsRow.kinds == (if Rows.interestSumsRow.domain.isEmpty then [] else Try.f6.params.toList.map fun t => match Try.pinned.checked.prog.underlying t with | some (.int k) => some k | _ => none)) = true := by kernel_rfl
theorem interestSums_k29 : (Rows.interestSumsRow.pinned == Rows.interestSumsRow.pinnedBy) = true := by kernel_rfl
theorem interestSums_k30 : (Rows.interestSumsRow.veiled == (Try.f6.params.toList ++ Rows.interestSumsSpec.plain.varTypes Try.pinned.checked.prog ++ Try.f6.resultTypes.toList).any (Try.pinned.checked.prog.veiledRec ·)) = true := by kernel_rfl
theorem interestSums_k31 : (Rows.interestSumsRow.veiledFits Try.pinned.checked.prog Try.f6.params.toList (Try.f6.params.toList ++ Rows.interestSumsSpec.plain.varTypes Try.pinned.checked.prog ++ Try.f6.resultTypes.toList)) = true := by kernel_rfl
set_option maxRecDepth 100000 in
theorem interestSums_closed : joinedFacts Try.pinned.checked.prog 6 Try.f6 Rows.interestSumsSpec Rows.interestSumsRow = true := by
  simp only [joinedFacts, Bool.and_eq_true]
  exact ⟨⟨⟨⟨⟨⟨⟨⟨⟨⟨⟨⟨⟨⟨⟨⟨⟨⟨⟨⟨⟨⟨⟨⟨⟨⟨⟨⟨⟨⟨⟨interestSums_k0, interestSums_k1⟩, interestSums_k2⟩, interestSums_k3⟩, interestSums_k4⟩, interestSums_k5⟩, interestSums_k6⟩, interestSums_k7⟩, interestSums_k8⟩, interestSums_k9⟩, interestSums_k10⟩, interestSums_k11⟩, interestSums_k12⟩, interestSums_k13⟩, interestSums_k14⟩, interestSums_k15⟩, interestSums_k16⟩, interestSums_k17⟩, interestSums_k18⟩, interestSums_k19⟩, interestSums_k20⟩, interestSums_k21⟩, interestSums_k22⟩, interestSums_k23⟩, interestSums_k24⟩, interestSums_k25⟩, interestSums_k26⟩, interestSums_k27⟩, interestSums_k28⟩, interestSums_k29⟩, interestSums_k30⟩, interestSums_k31⟩

theorem interestSums_holds : Rows.InterestSumsSaid :=
  OpenClaim.holds_of_wide 6 Try.f6 rfl rfl rfl rfl rfl rfl rfl ⟨rfl, rfl, rfl, rfl, rfl⟩ rfl rfl rfl rfl rfl (by kernel_rfl) Try.func6 interestSums_closed
    (of_decide_eq_true (by kernel_rfl)) (by unfold Func.isWrapper; first | (rw [if_pos (by decide +kernel)]; kernel_rfl) | (rw [if_neg (by decide +kernel)]; exact ⟨rfl, rfl⟩))
    (fun os started H enc _ => interestSums_lifted os started H enc)

end Go.Proofs.Ytcfejphpflafiaa
