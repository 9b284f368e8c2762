/-
  CurrencyRate: for every input the law returns true: Rate agrees with the definition for arbitrary quotes, codes and days. No condition.
-/
import Derived.Test.YtkdcffcgedhllaaKL1
import Derived.Test.YtkdcffcgedhllaaFrameK
namespace Go.Proofs.Ytkdcffcgedhllaa
open Go.RowKit Nd
open Go.ChangeShapes Go.WideShapes Go.ChangeAt
open Go.ChangeMaps (open_string shut_string)

theorem i64rng {a : Int} (h : (Lit.int .i64 a).wf = true) : -9223372036854775808 ≤ a ∧ a ≤ 9223372036854775807 := by simpa [Lit.wf, IntKind.min, IntKind.max, IntKind.signed, IntKind.bits] using h

set_option maxRecDepth 100000 in
theorem currencyRate_lifted (os : Os) (started : os.Started) (H : Type) (enc : TypeId × Value → H) :
    ReturnsInHanded {} Try.checked os 5 .any (Rows.currencyRateSpec.pre6 enc Try.prog Try.f5 [] false) (Rows.currencyRateSpec.post enc Try.prog Try.f5 false true false false) := by
  refine returnsInHanded_of_change (C := Try.checked) own started (by kernel_rfl) Try.func5
    (ChangeSpec.witness6 (enc := enc) (C := Try.checked) false ⟨#[], #[.slice none 0 0, .string ByteArray.empty, .int .i64 0], []⟩ 8 (by kernel_rfl) (by kernel_rfl) (by kernel_rfl) (by kernel_rfl)) ?_
  intro W base args ds gs before hval0 hW _ _
  have hval : ∀ (j : Nat) t v, Try.f5.params[j]? = some t → args[j]? = some v → Value.okWide Try.prog W .any base t v := hval0
  have hW' := hW
  obtain ⟨p, q, hA0, hV, rfl, _, _⟩ := hW
  have hA : DataW.TrodAll enc Try.prog W 0 (fun _ => true) true Try.f5.params.toList args.toList ds p := hA0
  rw [Try.params5] at hA hval
  obtain ⟨v0, v1, v2, d0, d1, d2, p0, p1, p2, rfl, rfl, rfl, h0, h1, h2⟩ := trodAll_three hA
  obtain ⟨rfl, rfl⟩ := trodVars_none hV
  obtain ⟨A0, cap0, a0, rfl, b0, c0, e0⟩ := open_qts (hval 0 22 v0 rfl rfl) h0
  obtain ⟨a1, rfl, rfl, rfl, b1⟩ := open_string Try.underlying9 (hval 1 9 v1 rfl rfl) h1
  obtain ⟨a2, rfl, rfl, rfl, b2⟩ := open_int Try.underlying3 (hval 2 3 v2 rfl rfl) h2
  simp only [List.append_nil] at hW'
  refine (lqrate_any a0 a1 a2 _ A0 cap0 W rfl b0 c0 e0).mono fun e W' ⟨he, hch⟩ => ?_
  subst he
  exact ⟨_, rfl, _, _, _, [], _, [], hW', trodAll_mk1 (shut_bool Try.underlying4 _), args_again (by rw [Try.params5]; exact of_decide_eq_true (by kernel_rfl)) hA0 hch.below, rfl, hch.below.frame _, fun h => by cases h⟩

theorem currencyRate_k0 : (Rows.currencyRateRow.wf (OpenSpec.ofChange Rows.currencyRateSpec)) = true := by kernel_rfl
theorem currencyRate_k1 : (laidOutB Try.pinned.checked.prog) = true := by kernel_rfl
theorem currencyRate_k2 : (mapsRowed Try.pinned.checked.prog) = true := by kernel_rfl
theorem currencyRate_k3 : (Try.f5.params.all (Try.pinned.checked.prog.readableRec ·)) = true := by kernel_rfl
theorem currencyRate_k4 : (namedTie Try.pinned.checked.prog Rows.currencyRateRow.named Rows.currencyRateSpec.vars) = true := by kernel_rfl
theorem currencyRate_k5 : (Rows.currencyRateRow.stops == []) = true := by kernel_rfl
theorem currencyRate_k6 : (Try.pinned.checked.prog.stops == []) = true := by kernel_rfl
theorem currencyRate_k7 : (Rows.currencyRateRow.knobs == []) = true := by kernel_rfl
theorem currencyRate_k8 : (Try.pinned.checked.prog.stopKnobs == []) = true := by kernel_rfl
theorem currencyRate_k9 : (Rows.currencyRateRow.inPlace == Try.pinned.checked.prog.inPlace 5) = true := by kernel_rfl
theorem currencyRate_k10 : (Rows.currencyRateRow.unfollowed == Try.pinned.checked.prog.unfollowed 5) = true := by kernel_rfl
theorem currencyRate_k11 : (Rows.currencyRateRow.recurses == Try.pinned.checked.prog.recurses 5) = true := by kernel_rfl
theorem currencyRate_k12 : (Rows.currencyRateRow.named == Try.pinned.checked.prog.varsNamed 5) = true := by kernel_rfl
theorem currencyRate_k13 : (Rows.currencyRateRow.maps == (Try.f5.params.toList ++ Rows.currencyRateSpec.plain.varTypes Try.pinned.checked.prog).any (Try.pinned.checked.prog.mapsRec ·)) = true := by kernel_rfl
theorem currencyRate_k14 : (Rows.currencyRateRow.ifaces == (Try.f5.params.toList ++ Rows.currencyRateSpec.plain.varTypes Try.pinned.checked.prog).any (Try.pinned.checked.prog.ifacesRec ·)) = true := by kernel_rfl
theorem currencyRate_k15 : (Rows.currencyRateRow.mapsOut == Try.pinned.checked.prog.mapsAmong Try.f5.resultTypes.toList) = true := by kernel_rfl
theorem currencyRate_k16 : (Rows.currencyRateRow.loops == (Try.f5.params.toList ++ Rows.currencyRateSpec.plain.varTypes Try.pinned.checked.prog).any (Try.pinned.checked.prog.loopsFrom ·)) = true := by kernel_rfl
theorem currencyRate_k17 : (Rows.currencyRateRow.wideKeys == (Try.f5.params.toList ++ Rows.currencyRateSpec.plain.varTypes Try.pinned.checked.prog ++ Try.f5.resultTypes.toList).any (Try.pinned.checked.prog.wideKeysFrom ·)) = true := by kernel_rfl
theorem currencyRate_k18 : (Rows.currencyRateSpec.vars.all (Try.pinned.checked.prog.varReadable ·)) = true := by kernel_rfl
theorem currencyRate_k19 : (Try.f5.resultTypes.all (fun t => Try.pinned.checked.prog.readableRec t && decide (t < Try.pinned.checked.prog.types.size))) = true := by kernel_rfl
theorem currencyRate_k20 : (Rows.currencyRateRow.ifacesOut == Try.f5.resultTypes.toList.any (Try.pinned.checked.prog.ifacesRec ·)) = true := by kernel_rfl
theorem currencyRate_k21 : (Rows.currencyRateRow.loopsOut == Try.f5.resultTypes.toList.any (Try.pinned.checked.prog.loopsFrom ·)) = true := by kernel_rfl
theorem currencyRate_k22 : (Rows.currencyRateRow.plainKeys == Try.pinned.checked.prog.plainKeys) = true := by kernel_rfl
theorem currencyRate_k23 : (Rows.currencyRateRow.shortTexts.isNone) = true := by kernel_rfl
theorem currencyRate_k24 : (Try.pinned.checked.prog.stopsHeard) = true := by kernel_rfl
theorem currencyRate_k25 : (Try.pinned.checked.prog.mayEnter) = true := by kernel_rfl
theorem currencyRate_k26 : (Rows.currencyRateRow.lifted == Try.pinned.checked.prog.liftsFinal) = true := by kernel_rfl
theorem currencyRate_k27 : (Try.pinned.checked.prog.make == some Rows.currencyRateRow.make) = true := by kernel_rfl
theorem currencyRate_k28 : (Rows.currencyRateRow.kinds == (if Rows.currencyRateRow.domain.isEmpty then [] else Try.f5.params.toList.map fun t => match Try.pinned.checked.prog.underlying t with | some (.int k) => some k | _ => none)) = true := by kernel_rfl
theorem currencyRate_k29 : (Rows.currencyRateRow.pinned == Rows.currencyRateRow.pinnedBy) = true := by kernel_rfl
theorem currencyRate_k30 : (Rows.currencyRateRow.veiled == (Try.f5.params.toList ++ Rows.currencyRateSpec.plain.varTypes Try.pinned.checked.prog ++ Try.f5.resultTypes.toList).any (Try.pinned.checked.prog.veiledRec ·)) = true := by kernel_rfl
theorem currencyRate_k31 : (Rows.currencyRateRow.veiledFits Try.pinned.checked.prog Try.f5.params.toList (Try.f5.params.toList ++ Rows.currencyRateSpec.plain.varTypes Try.pinned.checked.prog ++ Try.f5.resultTypes.toList)) = true := by kernel_rfl
set_option maxRecDepth 100000 in
theorem currencyRate_closed : joinedFacts Try.pinned.checked.prog 5 Try.f5 Rows.currencyRateSpec Rows.currencyRateRow = true := by
  simp only [joinedFacts, Bool.and_eq_true]
  exact ⟨⟨⟨⟨⟨⟨⟨⟨⟨⟨⟨⟨⟨⟨⟨⟨⟨⟨⟨⟨⟨⟨⟨⟨⟨⟨⟨⟨⟨⟨⟨currencyRate_k0, currencyRate_k1⟩, currencyRate_k2⟩, currencyRate_k3⟩, currencyRate_k4⟩, currencyRate_k5⟩, currencyRate_k6⟩, currencyRate_k7⟩, currencyRate_k8⟩, currencyRate_k9⟩, currencyRate_k10⟩, currencyRate_k11⟩, currencyRate_k12⟩, currencyRate_k13⟩, currencyRate_k14⟩, currencyRate_k15⟩, currencyRate_k16⟩, currencyRate_k17⟩, currencyRate_k18⟩, currencyRate_k19⟩, currencyRate_k20⟩, currencyRate_k21⟩, currencyRate_k22⟩, currencyRate_k23⟩, currencyRate_k24⟩, currencyRate_k25⟩, currencyRate_k26⟩, currencyRate_k27⟩, currencyRate_k28⟩, currencyRate_k29⟩, currencyRate_k30⟩, currencyRate_k31⟩

theorem currencyRate_holds : Rows.CurrencyRateSaid :=
  OpenClaim.holds_of_wide 5 Try.f5 rfl rfl rfl rfl rfl rfl rfl ⟨rfl, rfl, rfl, rfl, rfl⟩ rfl rfl rfl rfl rfl (by kernel_rfl) Try.func5 currencyRate_closed
    (of_decide_eq_true (by kernel_rfl)) (by unfold Func.isWrapper; first | (rw [if_pos (by decide +kernel)]; kernel_rfl) | (rw [if_neg (by decide +kernel)]; exact ⟨rfl, rfl⟩))
    (fun os started H enc _ => currencyRate_lifted os started H enc)

end Go.Proofs.Ytkdcffcgedhllaa
