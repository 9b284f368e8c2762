/-
  CurrencyConvert: for every input the law returns true: Convert agrees with the definition for arbitrary arguments. No condition.
-/
import Derived.Test.YtkdcffcgedhllaaKL1
import Derived.Test.YtkdcffcgedhllaaFrameK
namespace Go.Proofs.Ytkdcffcgedhllaa
open Go.RowKit Nd
open Go.ChangeShapes Go.WideShapes Go.ChangeAt
open Go.ChangeMaps (open_string shut_string)

theorem i64rng {a : Int} (h : (Lit.int .i64 a).wf = true) : -9223372036854775808 ≤ a ∧ a ≤ 9223372036854775807 := by simpa [Lit.wf, IntKind.min, IntKind.max, IntKind.signed, IntKind.bits] using h

set_option maxRecDepth 100000 in
theorem currencyConvert_lifted (os : Os) (started : os.Started) (H : Type) (enc : TypeId × Value → H) :
    ReturnsInHanded {} Try.checked os 6 .any (Rows.currencyConvertSpec.pre6 enc Try.prog Try.f6 [] false) (Rows.currencyConvertSpec.post enc Try.prog Try.f6 false true false false) := by
  refine returnsInHanded_of_change (C := Try.checked) own started (by kernel_rfl) Try.func6
    (ChangeSpec.witness6 (enc := enc) (C := Try.checked) false ⟨#[], #[.slice none 0 0, .agg #[.bool false, .string ByteArray.empty, .string ByteArray.empty], .string ByteArray.empty, .string ByteArray.empty, .int .i64 0], []⟩ 8 (by kernel_rfl) (by kernel_rfl) (by kernel_rfl) (by kernel_rfl)) ?_
  intro W base args ds gs before hval0 hW _ _
  have hval : ∀ (j : Nat) t v, Try.f6.params[j]? = some t → args[j]? = some v → Value.okWide Try.prog W .any base t v := hval0
  have hW' := hW
  obtain ⟨p, q, hA0, hV, rfl, _, _⟩ := hW
  have hA : DataW.TrodAll enc Try.prog W 0 (fun _ => true) true Try.f6.params.toList args.toList ds p := hA0
  rw [Try.params6] at hA hval
  obtain ⟨v0, v1, v2, v3, v4, d0, d1, d2, d3, d4, p0, p1, p2, p3, p4, rfl, rfl, rfl, h0, h1, h2, h3, h4⟩ := trodAll_five hA
  obtain ⟨rfl, rfl⟩ := trodVars_none hV
  obtain ⟨A0, cap0, a0, rfl, b0, c0, e0⟩ := open_qts (hval 0 22 v0 rfl rfl) h0
  obtain ⟨a1, rfl, rfl, rfl, b1, c1⟩ := open_rat (hval 1 30 v1 rfl rfl) h1
  obtain ⟨a2, rfl, rfl, rfl, b2⟩ := open_string Try.underlying9 (hval 2 9 v2 rfl rfl) h2
  obtain ⟨a3, rfl, rfl, rfl, b3⟩ := open_string Try.underlying9 (hval 3 9 v3 rfl rfl) h3
  obtain ⟨a4, rfl, rfl, rfl, b4⟩ := open_int Try.underlying3 (hval 4 3 v4 rfl rfl) h4
  simp only [List.append_nil] at hW'
  refine (lqconvert_any a0 a1 a2 a3 a4 _ A0 cap0 W rfl b0 c0 e0).mono fun e W' ⟨he, hch⟩ => ?_
  subst he
  exact ⟨_, rfl, _, _, _, [], _, [], hW', trodAll_mk1 (shut_bool Try.underlying4 _), args_again (by rw [Try.params6]; exact of_decide_eq_true (by kernel_rfl)) hA0 hch.below, rfl, hch.below.frame _, fun h => by cases h⟩

theorem currencyConvert_k0 : (Rows.currencyConvertRow.wf (OpenSpec.ofChange Rows.currencyConvertSpec)) = true := by kernel_rfl
theorem currencyConvert_k1 : (laidOutB Try.pinned.checked.prog) = true := by kernel_rfl
theorem currencyConvert_k2 : (mapsRowed Try.pinned.checked.prog) = true := by kernel_rfl
theorem currencyConvert_k3 : (Try.f6.params.all (Try.pinned.checked.prog.readableRec ·)) = true := by kernel_rfl
theorem currencyConvert_k4 : (namedTie Try.pinned.checked.prog Rows.currencyConvertRow.named Rows.currencyConvertSpec.vars) = true := by kernel_rfl
theorem currencyConvert_k5 : (Rows.currencyConvertRow.stops == []) = true := by kernel_rfl
theorem currencyConvert_k6 : (Try.pinned.checked.prog.stops == []) = true := by kernel_rfl
theorem currencyConvert_k7 : (Rows.currencyConvertRow.knobs == []) = true := by kernel_rfl
theorem currencyConvert_k8 : (Try.pinned.checked.prog.stopKnobs == []) = true := by kernel_rfl
theorem currencyConvert_k9 : (Rows.currencyConvertRow.inPlace == Try.pinned.checked.prog.inPlace 6) = true := by kernel_rfl
theorem currencyConvert_k10 : (Rows.currencyConvertRow.unfollowed == Try.pinned.checked.prog.unfollowed 6) = true := by kernel_rfl
theorem currencyConvert_k11 : (Rows.currencyConvertRow.recurses == Try.pinned.checked.prog.recurses 6) = true := by kernel_rfl
theorem currencyConvert_k12 : (Rows.currencyConvertRow.named == Try.pinned.checked.prog.varsNamed 6) = true := by kernel_rfl
theorem currencyConvert_k13 : (Rows.currencyConvertRow.maps == (Try.f6.params.toList ++ Rows.currencyConvertSpec.plain.varTypes Try.pinned.checked.prog).any (Try.pinned.checked.prog.mapsRec ·)) = true := by kernel_rfl
theorem currencyConvert_k14 : (Rows.currencyConvertRow.ifaces == (Try.f6.params.toList ++ Rows.currencyConvertSpec.plain.varTypes Try.pinned.checked.prog).any (Try.pinned.checked.prog.ifacesRec ·)) = true := by kernel_rfl
theorem currencyConvert_k15 : (Rows.currencyConvertRow.mapsOut == Try.pinned.checked.prog.mapsAmong Try.f6.resultTypes.toList) = true := by kernel_rfl
theorem currencyConvert_k16 : (Rows.currencyConvertRow.loops == (Try.f6.params.toList ++ Rows.currencyConvertSpec.plain.varTypes Try.pinned.checked.prog).any (Try.pinned.checked.prog.loopsFrom ·)) = true := by kernel_rfl
theorem currencyConvert_k17 : (Rows.currencyConvertRow.wideKeys == (Try.f6.params.toList ++ Rows.currencyConvertSpec.plain.varTypes Try.pinned.checked.prog ++ Try.f6.resultTypes.toList).any (Try.pinned.checked.prog.wideKeysFrom ·)) = true := by kernel_rfl
theorem currencyConvert_k18 : (Rows.currencyConvertSpec.vars.all (Try.pinned.checked.prog.varReadable ·)) = true := by kernel_rfl
theorem currencyConvert_k19 : (Try.f6.resultTypes.all (fun t => Try.pinned.checked.prog.readableRec t && decide (t < Try.pinned.checked.prog.types.size))) = true := by kernel_rfl
theorem currencyConvert_k20 : (Rows.currencyConvertRow.ifacesOut == Try.f6.resultTypes.toList.any (Try.pinned.checked.prog.ifacesRec ·)) = true := by kernel_rfl
theorem currencyConvert_k21 : (Rows.currencyConvertRow.loopsOut == Try.f6.resultTypes.toList.any (Try.pinned.checked.prog.loopsFrom ·)) = true := by kernel_rfl
theorem currencyConvert_k22 : (Rows.currencyConvertRow.plainKeys == Try.pinned.checked.prog.plainKeys) = true := by kernel_rfl
theorem currencyConvert_k23 : (Rows.currencyConvertRow.shortTexts.isNone) = true := by kernel_rfl
theorem currencyConvert_k24 : (Try.pinned.checked.prog.stopsHeard) = true := by kernel_rfl
theorem currencyConvert_k25 : (Try.pinned.checked.prog.mayEnter) = true := by kernel_rfl
theorem currencyConvert_k26 : (Rows.currencyConvertRow.lifted == Try.pinned.checked.prog.liftsFinal) = true := by kernel_rfl
theorem currencyConvert_k27 : (Try.pinned.checked.prog.make == some Rows.currencyConvertRow.make) = true := by kernel_rfl
theorem currencyConvert_k28 : (Rows.currencyConvertRow.kinds == (if Rows.currencyConvertRow.domain.isEmpty then [] else Try.f6.params.toList.map fun t => match Try.pinned.checked.prog.underlying t with | some (.int k) => some k | _ => none)) = true := by kernel_rfl
theorem currencyConvert_k29 : (Rows.currencyConvertRow.pinned == Rows.currencyConvertRow.pinnedBy) = true := by kernel_rfl
theorem currencyConvert_k30 : (Rows.currencyConvertRow.veiled == (Try.f6.params.toList ++ Rows.currencyConvertSpec.plain.varTypes Try.pinned.checked.prog ++ Try.f6.resultTypes.toList).any (Try.pinned.checked.prog.veiledRec ·)) = true := by kernel_rfl
theorem currencyConvert_k31 : (Rows.currencyConvertRow.veiledFits Try.pinned.checked.prog Try.f6.params.toList (Try.f6.params.toList ++ Rows.currencyConvertSpec.plain.varTypes Try.pinned.checked.prog ++ Try.f6.resultTypes.toList)) = true := by kernel_rfl
set_option maxRecDepth 100000 in
theorem currencyConvert_closed : joinedFacts Try.pinned.checked.prog 6 Try.f6 Rows.currencyConvertSpec Rows.currencyConvertRow = true := by
  simp only [joinedFacts, Bool.and_eq_true]
  exact ⟨⟨⟨⟨⟨⟨⟨⟨⟨⟨⟨⟨⟨⟨⟨⟨⟨⟨⟨⟨⟨⟨⟨⟨⟨⟨⟨⟨⟨⟨⟨currencyConvert_k0, currencyConvert_k1⟩, currencyConvert_k2⟩, currencyConvert_k3⟩, currencyConvert_k4⟩, currencyConvert_k5⟩, currencyConvert_k6⟩, currencyConvert_k7⟩, currencyConvert_k8⟩, currencyConvert_k9⟩, currencyConvert_k10⟩, currencyConvert_k11⟩, currencyConvert_k12⟩, currencyConvert_k13⟩, currencyConvert_k14⟩, currencyConvert_k15⟩, currencyConvert_k16⟩, currencyConvert_k17⟩, currencyConvert_k18⟩, currencyConvert_k19⟩, currencyConvert_k20⟩, currencyConvert_k21⟩, currencyConvert_k22⟩, currencyConvert_k23⟩, currencyConvert_k24⟩, currencyConvert_k25⟩, currencyConvert_k26⟩, currencyConvert_k27⟩, currencyConvert_k28⟩, currencyConvert_k29⟩, currencyConvert_k30⟩, currencyConvert_k31⟩

theorem currencyConvert_holds : Rows.CurrencyConvertSaid :=
  OpenClaim.holds_of_wide 6 Try.f6 rfl rfl rfl rfl rfl rfl rfl ⟨rfl, rfl, rfl, rfl, rfl⟩ rfl rfl rfl rfl rfl (by kernel_rfl) Try.func6 currencyConvert_closed
    (of_decide_eq_true (by kernel_rfl)) (by unfold Func.isWrapper; first | (rw [if_pos (by decide +kernel)]; kernel_rfl) | (rw [if_neg (by decide +kernel)]; exact ⟨rfl, rfl⟩))
    (fun os started H enc _ => currencyConvert_lifted os started H enc)

end Go.Proofs.Ytkdcffcgedhllaa
