/-
  CurrencyLatest: for every input the law returns true: the rate is that of the latest quote that is not after the day, whatever the order of the quotes. No condition.
-/
import Derived.Test.YtkdcffcgedhllaaKL4
import Derived.Test.YtkdcffcgedhllaaFrameK
namespace Go.Proofs.Ytkdcffcgedhllaa
open Go.RowKit Nd
open Go.ChangeShapes Go.WideShapes Go.ChangeAt
open Go.ChangeMaps (open_string shut_string)

set_option maxRecDepth 100000 in
theorem currencyLatest_lifted (os : Os) (started : os.Started) (H : Type) (enc : TypeId × Value → H) :
    ReturnsInHanded {} Try.checked os 8 .any (Rows.currencyLatestSpec.pre6 enc Try.prog Try.f8 [] false) (Rows.currencyLatestSpec.post enc Try.prog Try.f8 false true false false) := by
  refine returnsInHanded_of_change (C := Try.checked) own started (by kernel_rfl) Try.func8
    (ChangeSpec.witness6 (enc := enc) (C := Try.checked) false ⟨#[], #[.slice none 0 0, .int .u8 0, .int .u8 0], []⟩ 8 (by kernel_rfl) (by kernel_rfl) (by kernel_rfl) (by kernel_rfl)) ?_
  intro W base args ds gs before hval0 hW _ _
  have hval : ∀ (j : Nat) t v, Try.f8.params[j]? = some t → args[j]? = some v → Value.okWide Try.prog W .any base t v := hval0
  have hW' := hW
  obtain ⟨p, q, hA0, hV, rfl, _, _⟩ := hW
  have hA : DataW.TrodAll enc Try.prog W 0 (fun _ => true) true Try.f8.params.toList args.toList ds p := hA0
  rw [Try.params8] at hA hval
  obtain ⟨v0, v1, v2, d0, d1, d2, p0, p1, p2, rfl, rfl, rfl, h0, h1, h2⟩ := trodAll_three hA
  obtain ⟨rfl, rfl⟩ := trodVars_none hV
  obtain ⟨A0, cap0, a0, rfl, b0, c0, e0, g0⟩ := open_t3s (hval 0 44 v0 rfl rfl) h0
  obtain ⟨a1, rfl, rfl, rfl, b1⟩ := open_int Try.underlying5 (hval 1 5 v1 rfl rfl) h1
  obtain ⟨a2, rfl, rfl, rfl, b2⟩ := open_int Try.underlying5 (hval 2 5 v2 rfl rfl) h2
  simp only [List.append_nil] at hW'
  refine (lqlatest_any a0 a1 a2 _ A0 cap0 W (rngU8 b1) (rngU8 b2) rfl g0 e0).mono fun e W' ⟨he, hch⟩ => ?_
  subst he
  exact ⟨_, rfl, _, _, _, [], _, [], hW', trodAll_mk1 (shut_bool Try.underlying4 _), args_again (by rw [Try.params8]; exact of_decide_eq_true (by kernel_rfl)) hA0 hch.below, rfl, hch.below.frame _, fun h => by cases h⟩

theorem currencyLatest_k0 : (Rows.currencyLatestRow.wf (OpenSpec.ofChange Rows.currencyLatestSpec)) = true := by kernel_rfl
theorem currencyLatest_k1 : (laidOutB Try.pinned.checked.prog) = true := by kernel_rfl
theorem currencyLatest_k2 : (mapsRowed Try.pinned.checked.prog) = true := by kernel_rfl
theorem currencyLatest_k3 : (Try.f8.params.all (Try.pinned.checked.prog.readableRec ·)) = true := by kernel_rfl
theorem currencyLatest_k4 : (namedTie Try.pinned.checked.prog Rows.currencyLatestRow.named Rows.currencyLatestSpec.vars) = true := by kernel_rfl
theorem currencyLatest_k5 : (Rows.currencyLatestRow.stops == []) = true := by kernel_rfl
theorem currencyLatest_k6 : (Try.pinned.checked.prog.stops == []) = true := by kernel_rfl
theorem currencyLatest_k7 : (Rows.currencyLatestRow.knobs == []) = true := by kernel_rfl
theorem currencyLatest_k8 : (Try.pinned.checked.prog.stopKnobs == []) = true := by kernel_rfl
theorem currencyLatest_k9 : (Rows.currencyLatestRow.inPlace == Try.pinned.checked.prog.inPlace 8) = true := by kernel_rfl
theorem currencyLatest_k10 : (Rows.currencyLatestRow.unfollowed == Try.pinned.checked.prog.unfollowed 8) = true := by kernel_rfl
theorem currencyLatest_k11 : (Rows.currencyLatestRow.recurses == Try.pinned.checked.prog.recurses 8) = true := by kernel_rfl
theorem currencyLatest_k12 : (Rows.currencyLatestRow.named == Try.pinned.checked.prog.varsNamed 8) = true := by kernel_rfl
theorem currencyLatest_k13 : (Rows.currencyLatestRow.maps == (Try.f8.params.toList ++ Rows.currencyLatestSpec.plain.varTypes Try.pinned.checked.prog).any (Try.pinned.checked.prog.mapsRec ·)) = true := by kernel_rfl
theorem currencyLatest_k14 : (Rows.currencyLatestRow.ifaces == (Try.f8.params.toList ++ Rows.currencyLatestSpec.plain.varTypes Try.pinned.checked.prog).any (Try.pinned.checked.prog.ifacesRec ·)) = true := by kernel_rfl
theorem currencyLatest_k15 : (Rows.currencyLatestRow.mapsOut == Try.pinned.checked.prog.mapsAmong Try.f8.resultTypes.toList) = true := by kernel_rfl
theorem currencyLatest_k16 : (Rows.currencyLatestRow.loops == (Try.f8.params.toList ++ Rows.currencyLatestSpec.plain.varTypes Try.pinned.checked.prog).any (Try.pinned.checked.prog.loopsFrom ·)) = true := by kernel_rfl
theorem currencyLatest_k17 : (Rows.currencyLatestRow.wideKeys == (Try.f8.params.toList ++ Rows.currencyLatestSpec.plain.varTypes Try.pinned.checked.prog ++ Try.f8.resultTypes.toList).any (Try.pinned.checked.prog.wideKeysFrom ·)) = true := by kernel_rfl
theorem currencyLatest_k18 : (Rows.currencyLatestSpec.vars.all (Try.pinned.checked.prog.varReadable ·)) = true := by kernel_rfl
theorem currencyLatest_k19 : (Try.f8.resultTypes.all (fun t => Try.pinned.checked.prog.readableRec t && decide (t < Try.pinned.checked.prog.types.size))) = true := by kernel_rfl
theorem currencyLatest_k20 : (Rows.currencyLatestRow.ifacesOut == Try.f8.resultTypes.toList.any (Try.pinned.checked.prog.ifacesRec ·)) = true := by kernel_rfl
theorem currencyLatest_k21 : (Rows.currencyLatestRow.loopsOut == Try.f8.resultTypes.toList.any (Try.pinned.checked.prog.loopsFrom ·)) = true := by kernel_rfl
theorem currencyLatest_k22 : (Rows.currencyLatestRow.plainKeys == Try.pinned.checked.prog.plainKeys) = true := by kernel_rfl
theorem currencyLatest_k23 : (Rows.currencyLatestRow.shortTexts.isNone) = true := by kernel_rfl
theorem currencyLatest_k24 : (Try.pinned.checked.prog.stopsHeard) = true := by kernel_rfl
theorem currencyLatest_k25 : (Try.pinned.checked.prog.mayEnter) = true := by kernel_rfl
theorem currencyLatest_k26 : (Rows.currencyLatestRow.lifted == Try.pinned.checked.prog.liftsFinal) = true := by kernel_rfl
theorem currencyLatest_k27 : (Try.pinned.checked.prog.make == some Rows.currencyLatestRow.make) = true := by kernel_rfl
theorem currencyLatest_k28 : (Rows.currencyLatestRow.kinds == (if Rows.currencyLatestRow.domain.isEmpty then [] else Try.f8.params.toList.map fun t => match Try.pinned.checked.prog.underlying t with | some (.int k) => some k | _ => none)) = true := by kernel_rfl
theorem currencyLatest_k29 : (Rows.currencyLatestRow.pinned == Rows.currencyLatestRow.pinnedBy) = true := by kernel_rfl
theorem currencyLatest_k30 : (Rows.currencyLatestRow.veiled == (Try.f8.params.toList ++ Rows.currencyLatestSpec.plain.varTypes Try.pinned.checked.prog ++ Try.f8.resultTypes.toList).any (Try.pinned.checked.prog.veiledRec ·)) = true := by kernel_rfl
theorem currencyLatest_k31 : (Rows.currencyLatestRow.veiledFits Try.pinned.checked.prog Try.f8.params.toList (Try.f8.params.toList ++ Rows.currencyLatestSpec.plain.varTypes Try.pinned.checked.prog ++ Try.f8.resultTypes.toList)) = true := by kernel_rfl
set_option maxRecDepth 100000 in
theorem currencyLatest_closed : joinedFacts Try.pinned.checked.prog 8 Try.f8 Rows.currencyLatestSpec Rows.currencyLatestRow = true := by
  simp only [joinedFacts, Bool.and_eq_true]
  exact ⟨⟨⟨⟨⟨⟨⟨⟨⟨⟨⟨⟨⟨⟨⟨⟨⟨⟨⟨⟨⟨⟨⟨⟨⟨⟨⟨⟨⟨⟨⟨currencyLatest_k0, currencyLatest_k1⟩, currencyLatest_k2⟩, currencyLatest_k3⟩, currencyLatest_k4⟩, currencyLatest_k5⟩, currencyLatest_k6⟩, currencyLatest_k7⟩, currencyLatest_k8⟩, currencyLatest_k9⟩, currencyLatest_k10⟩, currencyLatest_k11⟩, currencyLatest_k12⟩, currencyLatest_k13⟩, currencyLatest_k14⟩, currencyLatest_k15⟩, currencyLatest_k16⟩, currencyLatest_k17⟩, currencyLatest_k18⟩, currencyLatest_k19⟩, currencyLatest_k20⟩, currencyLatest_k21⟩, currencyLatest_k22⟩, currencyLatest_k23⟩, currencyLatest_k24⟩, currencyLatest_k25⟩, currencyLatest_k26⟩, currencyLatest_k27⟩, currencyLatest_k28⟩, currencyLatest_k29⟩, currencyLatest_k30⟩, currencyLatest_k31⟩

theorem currencyLatest_holds : Rows.CurrencyLatestSaid :=
  OpenClaim.holds_of_wide 8 Try.f8 rfl rfl rfl rfl rfl rfl rfl ⟨rfl, rfl, rfl, rfl, rfl⟩ rfl rfl rfl rfl rfl (by kernel_rfl) Try.func8 currencyLatest_closed
    (of_decide_eq_true (by kernel_rfl)) (by unfold Func.isWrapper; first | (rw [if_pos (by decide +kernel)]; kernel_rfl) | (rw [if_neg (by decide +kernel)]; exact ⟨rfl, rfl⟩))
    (fun os started H enc _ => currencyLatest_lifted os started H enc)

end Go.Proofs.Ytkdcffcgedhllaa
