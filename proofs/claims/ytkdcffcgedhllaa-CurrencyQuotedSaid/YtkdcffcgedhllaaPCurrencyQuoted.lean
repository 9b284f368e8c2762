/-
  CurrencyQuoted: for every input the law returns true: Rate and Convert agree with the definition for valid quotes. No condition.
-/
import Derived.Test.YtkdcffcgedhllaaKL3
import Derived.Test.YtkdcffcgedhllaaFrameK
namespace Go.Proofs.Ytkdcffcgedhllaa
open Go.RowKit Nd
open Go.ChangeShapes Go.WideShapes Go.ChangeAt
open Go.ChangeMaps (open_string shut_string)

set_option maxRecDepth 100000 in
theorem currencyQuoted_lifted (os : Os) (started : os.Started) (H : Type) (enc : TypeId × Value → H) :
    ReturnsInHanded {} Try.checked os 7 .any (Rows.currencyQuotedSpec.pre6 enc Try.prog Try.f7 [] false) (Rows.currencyQuotedSpec.post enc Try.prog Try.f7 false true false false) := by
  refine returnsInHanded_of_change (C := Try.checked) own started (by kernel_rfl) Try.func7
    (ChangeSpec.witness6 (enc := enc) (C := Try.checked) false ⟨#[], #[.slice none 0 0, .int .u16 0, .int .u8 0, .int .u8 0, .int .u8 0], []⟩ 8 (by kernel_rfl) (by kernel_rfl) (by kernel_rfl) (by kernel_rfl)) ?_
  intro W base args ds gs before hval0 hW _ _
  have hval : ∀ (j : Nat) t v, Try.f7.params[j]? = some t → args[j]? = some v → Value.okWide Try.prog W .any base t v := hval0
  have hW' := hW
  obtain ⟨p, q, hA0, hV, rfl, _, _⟩ := hW
  have hA : DataW.TrodAll enc Try.prog W 0 (fun _ => true) true Try.f7.params.toList args.toList ds p := hA0
  rw [Try.params7] at hA hval
  obtain ⟨v0, v1, v2, v3, v4, d0, d1, d2, d3, d4, p0, p1, p2, p3, p4, rfl, rfl, rfl, h0, h1, h2, h3, h4⟩ := trodAll_five hA
  obtain ⟨rfl, rfl⟩ := trodVars_none hV
  obtain ⟨A0, cap0, a0, rfl, b0, c0, e0, g0⟩ := open_t3s (hval 0 44 v0 rfl rfl) h0
  obtain ⟨a1, rfl, rfl, rfl, b1⟩ := open_int Try.underlying28 (hval 1 28 v1 rfl rfl) h1
  obtain ⟨a2, rfl, rfl, rfl, b2⟩ := open_int Try.underlying5 (hval 2 5 v2 rfl rfl) h2
  obtain ⟨a3, rfl, rfl, rfl, b3⟩ := open_int Try.underlying5 (hval 3 5 v3 rfl rfl) h3
  obtain ⟨a4, rfl, rfl, rfl, b4⟩ := open_int Try.underlying5 (hval 4 5 v4 rfl rfl) h4
  simp only [List.append_nil] at hW'
  refine (lqquoted_any a0 a1 a2 a3 a4 _ A0 cap0 W (rngU16 b1) (rngU8 b2) (rngU8 b3) (rngU8 b4) rfl g0 e0).mono fun e W' ⟨he, hch⟩ => ?_
  subst he
  exact ⟨_, rfl, _, _, _, [], _, [], hW', trodAll_mk1 (shut_bool Try.underlying4 _), args_again (by rw [Try.params7]; exact of_decide_eq_true (by kernel_rfl)) hA0 hch.below, rfl, hch.below.frame _, fun h => by cases h⟩

theorem currencyQuoted_k0 : (Rows.currencyQuotedRow.wf (OpenSpec.ofChange Rows.currencyQuotedSpec)) = true := by kernel_rfl
theorem currencyQuoted_k1 : (laidOutB Try.pinned.checked.prog) = true := by kernel_rfl
theorem currencyQuoted_k2 : (mapsRowed Try.pinned.checked.prog) = true := by kernel_rfl
theorem currencyQuoted_k3 : (Try.f7.params.all (Try.pinned.checked.prog.readableRec ·)) = true := by kernel_rfl
theorem currencyQuoted_k4 : (namedTie Try.pinned.checked.prog Rows.currencyQuotedRow.named Rows.currencyQuotedSpec.vars) = true := by kernel_rfl
theorem currencyQuoted_k5 : (Rows.currencyQuotedRow.stops == []) = true := by kernel_rfl
theorem currencyQuoted_k6 : (Try.pinned.checked.prog.stops == []) = true := by kernel_rfl
theorem currencyQuoted_k7 : (Rows.currencyQuotedRow.knobs == []) = true := by kernel_rfl
theorem currencyQuoted_k8 : (Try.pinned.checked.prog.stopKnobs == []) = true := by kernel_rfl
theorem currencyQuoted_k9 : (Rows.currencyQuotedRow.inPlace == Try.pinned.checked.prog.inPlace 7) = true := by kernel_rfl
theorem currencyQuoted_k10 : (Rows.currencyQuotedRow.unfollowed == Try.pinned.checked.prog.unfollowed 7) = true := by kernel_rfl
theorem currencyQuoted_k11 : (Rows.currencyQuotedRow.recurses == Try.pinned.checked.prog.recurses 7) = true := by kernel_rfl
theorem currencyQuoted_k12 : (Rows.currencyQuotedRow.named == Try.pinned.checked.prog.varsNamed 7) = true := by kernel_rfl
theorem currencyQuoted_k13 : (Rows.currencyQuotedRow.maps == (Try.f7.params.toList ++ Rows.currencyQuotedSpec.plain.varTypes Try.pinned.checked.prog).any (Try.pinned.checked.prog.mapsRec ·)) = true := by kernel_rfl
theorem currencyQuoted_k14 : (Rows.currencyQuotedRow.ifaces == (Try.f7.params.toList ++ Rows.currencyQuotedSpec.plain.varTypes Try.pinned.checked.prog).any (Try.pinned.checked.prog.ifacesRec ·)) = true := by kernel_rfl
theorem currencyQuoted_k15 : (Rows.currencyQuotedRow.mapsOut == Try.pinned.checked.prog.mapsAmong Try.f7.resultTypes.toList) = true := by kernel_rfl
theorem currencyQuoted_k16 : (Rows.currencyQuotedRow.loops == (Try.f7.params.toList ++ Rows.currencyQuotedSpec.plain.varTypes Try.pinned.checked.prog).any (Try.pinned.checked.prog.loopsFrom ·)) = true := by kernel_rfl
theorem currencyQuoted_k17 : (Rows.currencyQuotedRow.wideKeys == (Try.f7.params.toList ++ Rows.currencyQuotedSpec.plain.varTypes Try.pinned.checked.prog ++ Try.f7.resultTypes.toList).any (Try.pinned.checked.prog.wideKeysFrom ·)) = true := by kernel_rfl
theorem currencyQuoted_k18 : (Rows.currencyQuotedSpec.vars.all (Try.pinned.checked.prog.varReadable ·)) = true := by kernel_rfl
theorem currencyQuoted_k19 : (Try.f7.resultTypes.all (fun t => Try.pinned.checked.prog.readableRec t && decide (t < Try.pinned.checked.prog.types.size))) = true := by kernel_rfl
theorem currencyQuoted_k20 : (Rows.currencyQuotedRow.ifacesOut == Try.f7.resultTypes.toList.any (Try.pinned.checked.prog.ifacesRec ·)) = true := by kernel_rfl
theorem currencyQuoted_k21 : (Rows.currencyQuotedRow.loopsOut == Try.f7.resultTypes.toList.any (Try.pinned.checked.prog.loopsFrom ·)) = true := by kernel_rfl
theorem currencyQuoted_k22 : (Rows.currencyQuotedRow.plainKeys == Try.pinned.checked.prog.plainKeys) = true := by kernel_rfl
theorem currencyQuoted_k23 : (Rows.currencyQuotedRow.shortTexts.isNone) = true := by kernel_rfl
theorem currencyQuoted_k24 : (Try.pinned.checked.prog.stopsHeard) = true := by kernel_rfl
theorem currencyQuoted_k25 : (Try.pinned.checked.prog.mayEnter) = true := by kernel_rfl
theorem currencyQuoted_k26 : (Rows.currencyQuotedRow.lifted == Try.pinned.checked.prog.liftsFinal) = true := by kernel_rfl
theorem currencyQuoted_k27 : (Try.pinned.checked.prog.make == some Rows.currencyQuotedRow.make) = true := by kernel_rfl
theorem currencyQuoted_k28 : (Rows.currencyQuotedRow.kinds == (if Rows.currencyQuotedRow.domain.isEmpty then [] else Try.f7.params.toList.map fun t => match Try.pinned.checked.prog.underlying t with | some (.int k) => some k | _ => none)) = true := by kernel_rfl
theorem currencyQuoted_k29 : (Rows.currencyQuotedRow.pinned == Rows.currencyQuotedRow.pinnedBy) = true := by kernel_rfl
theorem currencyQuoted_k30 : (Rows.currencyQuotedRow.veiled == (Try.f7.params.toList ++ Rows.currencyQuotedSpec.plain.varTypes Try.pinned.checked.prog ++ Try.f7.resultTypes.toList).any (Try.pinned.checked.prog.veiledRec ·)) = true := by kernel_rfl
theorem currencyQuoted_k31 : (Rows.currencyQuotedRow.veiledFits Try.pinned.checked.prog Try.f7.params.toList (Try.f7.params.toList ++ Rows.currencyQuotedSpec.plain.varTypes Try.pinned.checked.prog ++ Try.f7.resultTypes.toList)) = true := by kernel_rfl
set_option maxRecDepth 100000 in
theorem currencyQuoted_closed : joinedFacts Try.pinned.checked.prog 7 Try.f7 Rows.currencyQuotedSpec Rows.currencyQuotedRow = true := by
  simp only [joinedFacts, Bool.and_eq_true]
  exact ⟨⟨⟨⟨⟨⟨⟨⟨⟨⟨⟨⟨⟨⟨⟨⟨⟨⟨⟨⟨⟨⟨⟨⟨⟨⟨⟨⟨⟨⟨⟨currencyQuoted_k0, currencyQuoted_k1⟩, currencyQuoted_k2⟩, currencyQuoted_k3⟩, currencyQuoted_k4⟩, currencyQuoted_k5⟩, currencyQuoted_k6⟩, currencyQuoted_k7⟩, currencyQuoted_k8⟩, currencyQuoted_k9⟩, currencyQuoted_k10⟩, currencyQuoted_k11⟩, currencyQuoted_k12⟩, currencyQuoted_k13⟩, currencyQuoted_k14⟩, currencyQuoted_k15⟩, currencyQuoted_k16⟩, currencyQuoted_k17⟩, currencyQuoted_k18⟩, currencyQuoted_k19⟩, currencyQuoted_k20⟩, currencyQuoted_k21⟩, currencyQuoted_k22⟩, currencyQuoted_k23⟩, currencyQuoted_k24⟩, currencyQuoted_k25⟩, currencyQuoted_k26⟩, currencyQuoted_k27⟩, currencyQuoted_k28⟩, currencyQuoted_k29⟩, currencyQuoted_k30⟩, currencyQuoted_k31⟩

theorem currencyQuoted_holds : Rows.CurrencyQuotedSaid :=
  OpenClaim.holds_of_wide 7 Try.f7 rfl rfl rfl rfl rfl rfl rfl ⟨rfl, rfl, rfl, rfl, rfl⟩ rfl rfl rfl rfl rfl (by kernel_rfl) Try.func7 currencyQuoted_closed
    (of_decide_eq_true (by kernel_rfl)) (by unfold Func.isWrapper; first | (rw [if_pos (by decide +kernel)]; kernel_rfl) | (rw [if_neg (by decide +kernel)]; exact ⟨rfl, rfl⟩))
    (fun os started H enc _ => currencyQuoted_lifted os started H enc)

end Go.Proofs.Ytkdcffcgedhllaa
