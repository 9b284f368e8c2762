/-
  CurrencyMany: for every input the law returns true: exactly lists of at most MaxQuotes quotes are accepted. No condition.
-/
import Derived.Test.YtkdcffcgedhllaaKL2
import Derived.Test.YtkdcffcgedhllaaFrameK
namespace Go.Proofs.Ytkdcffcgedhllaa
open Go.RowKit Nd
open Go.ChangeShapes Go.WideShapes Go.ChangeAt
open Go.ChangeMaps (open_string shut_string)

set_option maxRecDepth 100000 in
theorem currencyMany_lifted (os : Os) (started : os.Started) (H : Type) (enc : TypeId × Value → H) :
    ReturnsInHanded {} Try.checked os 4 .any (Rows.currencyManySpec.pre6 enc Try.prog Try.f4 [] false) (Rows.currencyManySpec.post enc Try.prog Try.f4 false true false false) := by
  refine returnsInHanded_of_change (C := Try.checked) own started (by kernel_rfl) Try.func4
    (ChangeSpec.witness6 (enc := enc) (C := Try.checked) false ⟨#[], #[.int .u16 0], []⟩ 8 (by kernel_rfl) (by kernel_rfl) (by kernel_rfl) (by kernel_rfl)) ?_
  intro W base args ds gs before hval0 hW _ _
  have hval : ∀ (j : Nat) t v, Try.f4.params[j]? = some t → args[j]? = some v → Value.okWide Try.prog W .any base t v := hval0
  have hW' := hW
  obtain ⟨p, q, hA0, hV, rfl, _, _⟩ := hW
  have hA : DataW.TrodAll enc Try.prog W 0 (fun _ => true) true Try.f4.params.toList args.toList ds p := hA0
  rw [Try.params4] at hA hval
  obtain ⟨v0, d0, rfl, rfl, h0⟩ := trodAll_one hA
  obtain ⟨rfl, rfl⟩ := trodVars_none hV
  obtain ⟨a0, rfl, rfl, rfl, b0⟩ := open_int Try.underlying28 (hval 0 28 v0 rfl rfl) h0
  simp only [List.append_nil] at hW'
  refine (lqmany_any a0 W (rngU16 b0)).mono fun e W' ⟨he, hch⟩ => ?_
  subst he
  exact ⟨_, rfl, _, _, _, [], [], [], hW', trodAll_mk1 (shut_bool Try.underlying4 _), trodAll_mk1 (shut_int Try.underlying28 b0), rfl, hch.below.frame _, fun h => by cases h⟩

theorem currencyMany_k0 : (Rows.currencyManyRow.wf (OpenSpec.ofChange Rows.currencyManySpec)) = true := by kernel_rfl
theorem currencyMany_k1 : (laidOutB Try.pinned.checked.prog) = true := by kernel_rfl
theorem currencyMany_k2 : (mapsRowed Try.pinned.checked.prog) = true := by kernel_rfl
theorem currencyMany_k3 : (Try.f4.params.all (Try.pinned.checked.prog.readableRec ·)) = true := by kernel_rfl
theorem currencyMany_k4 : (namedTie Try.pinned.checked.prog Rows.currencyManyRow.named Rows.currencyManySpec.vars) = true := by kernel_rfl
theorem currencyMany_k5 : (Rows.currencyManyRow.stops == []) = true := by kernel_rfl
theorem currencyMany_k6 : (Try.pinned.checked.prog.stops == []) = true := by kernel_rfl
theorem currencyMany_k7 : (Rows.currencyManyRow.knobs == []) = true := by kernel_rfl
theorem currencyMany_k8 : (Try.pinned.checked.prog.stopKnobs == []) = true := by kernel_rfl
theorem currencyMany_k9 : (Rows.currencyManyRow.inPlace == Try.pinned.checked.prog.inPlace 4) = true := by kernel_rfl
theorem currencyMany_k10 : (Rows.currencyManyRow.unfollowed == Try.pinned.checked.prog.unfollowed 4) = true := by kernel_rfl
theorem currencyMany_k11 : (Rows.currencyManyRow.recurses == Try.pinned.checked.prog.recurses 4) = true := by kernel_rfl
theorem currencyMany_k12 : (Rows.currencyManyRow.named == Try.pinned.checked.prog.varsNamed 4) = true := by kernel_rfl
theorem currencyMany_k13 : (Rows.currencyManyRow.maps == (Try.f4.params.toList ++ Rows.currencyManySpec.plain.varTypes Try.pinned.checked.prog).any (Try.pinned.checked.prog.mapsRec ·)) = true := by kernel_rfl
theorem currencyMany_k14 : (Rows.currencyManyRow.ifaces == (Try.f4.params.toList ++ Rows.currencyManySpec.plain.varTypes Try.pinned.checked.prog).any (Try.pinned.checked.prog.ifacesRec ·)) = true := by kernel_rfl
theorem currencyMany_k15 : (Rows.currencyManyRow.mapsOut == Try.pinned.checked.prog.mapsAmong Try.f4.resultTypes.toList) = true := by kernel_rfl
theorem currencyMany_k16 : (Rows.currencyManyRow.loops == (Try.f4.params.toList ++ Rows.currencyManySpec.plain.varTypes Try.pinned.checked.prog).any (Try.pinned.checked.prog.loopsFrom ·)) = true := by kernel_rfl
theorem currencyMany_k17 : (Rows.currencyManyRow.wideKeys == (Try.f4.params.toList ++ Rows.currencyManySpec.plain.varTypes Try.pinned.checked.prog ++ Try.f4.resultTypes.toList).any (Try.pinned.checked.prog.wideKeysFrom ·)) = true := by kernel_rfl
theorem currencyMany_k18 : (Rows.currencyManySpec.vars.all (Try.pinned.checked.prog.varReadable ·)) = true := by kernel_rfl
theorem currencyMany_k19 : (Try.f4.resultTypes.all (fun t => Try.pinned.checked.prog.readableRec t && decide (t < Try.pinned.checked.prog.types.size))) = true := by kernel_rfl
theorem currencyMany_k20 : (Rows.currencyManyRow.ifacesOut == Try.f4.resultTypes.toList.any (Try.pinned.checked.prog.ifacesRec ·)) = true := by kernel_rfl
theorem currencyMany_k21 : (Rows.currencyManyRow.loopsOut == Try.f4.resultTypes.toList.any (Try.pinned.checked.prog.loopsFrom ·)) = true := by kernel_rfl
theorem currencyMany_k22 : (Rows.currencyManyRow.plainKeys == Try.pinned.checked.prog.plainKeys) = true := by kernel_rfl
theorem currencyMany_k23 : (Rows.currencyManyRow.shortTexts.isNone) = true := by kernel_rfl
theorem currencyMany_k24 : (Try.pinned.checked.prog.stopsHeard) = true := by kernel_rfl
theorem currencyMany_k25 : (Try.pinned.checked.prog.mayEnter) = true := by kernel_rfl
theorem currencyMany_k26 : (Rows.currencyManyRow.lifted == Try.pinned.checked.prog.liftsFinal) = true := by kernel_rfl
theorem currencyMany_k27 : (Try.pinned.checked.prog.make == some Rows.currencyManyRow.make) = true := by kernel_rfl
theorem currencyMany_k28 : (Rows.currencyManyRow.kinds == (if Rows.currencyManyRow.domain.isEmpty then [] else Try.f4.params.toList.map fun t => match Try.pinned.checked.prog.underlying t with | some (.int k) => some k | _ => none)) = true := by kernel_rfl
theorem currencyMany_k29 : (Rows.currencyManyRow.pinned == Rows.currencyManyRow.pinnedBy) = true := by kernel_rfl
theorem currencyMany_k30 : (Rows.currencyManyRow.veiled == (Try.f4.params.toList ++ Rows.currencyManySpec.plain.varTypes Try.pinned.checked.prog ++ Try.f4.resultTypes.toList).any (Try.pinned.checked.prog.veiledRec ·)) = true := by kernel_rfl
theorem currencyMany_k31 : (Rows.currencyManyRow.veiledFits Try.pinned.checked.prog Try.f4.params.toList (Try.f4.params.toList ++ Rows.currencyManySpec.plain.varTypes Try.pinned.checked.prog ++ Try.f4.resultTypes.toList)) = true := by kernel_rfl
set_option maxRecDepth 100000 in
theorem currencyMany_closed : joinedFacts Try.pinned.checked.prog 4 Try.f4 Rows.currencyManySpec Rows.currencyManyRow = true := by
  simp only [joinedFacts, Bool.and_eq_true]
  exact ⟨⟨⟨⟨⟨⟨⟨⟨⟨⟨⟨⟨⟨⟨⟨⟨⟨⟨⟨⟨⟨⟨⟨⟨⟨⟨⟨⟨⟨⟨⟨currencyMany_k0, currencyMany_k1⟩, currencyMany_k2⟩, currencyMany_k3⟩, currencyMany_k4⟩, currencyMany_k5⟩, currencyMany_k6⟩, currencyMany_k7⟩, currencyMany_k8⟩, currencyMany_k9⟩, currencyMany_k10⟩, currencyMany_k11⟩, currencyMany_k12⟩, currencyMany_k13⟩, currencyMany_k14⟩, currencyMany_k15⟩, currencyMany_k16⟩, currencyMany_k17⟩, currencyMany_k18⟩, currencyMany_k19⟩, currencyMany_k20⟩, currencyMany_k21⟩, currencyMany_k22⟩, currencyMany_k23⟩, currencyMany_k24⟩, currencyMany_k25⟩, currencyMany_k26⟩, currencyMany_k27⟩, currencyMany_k28⟩, currencyMany_k29⟩, currencyMany_k30⟩, currencyMany_k31⟩

theorem currencyMany_holds : Rows.CurrencyManySaid :=
  OpenClaim.holds_of_wide 4 Try.f4 rfl rfl rfl rfl rfl rfl rfl ⟨rfl, rfl, rfl, rfl, rfl⟩ rfl rfl rfl rfl rfl (by kernel_rfl) Try.func4 currencyMany_closed
    (of_decide_eq_true (by kernel_rfl)) (by unfold Func.isWrapper; first | (rw [if_pos (by decide +kernel)]; kernel_rfl) | (rw [if_neg (by decide +kernel)]; exact ⟨rfl, rfl⟩))
    (fun os started H enc _ => currencyMany_lifted os started H enc)

end Go.Proofs.Ytkdcffcgedhllaa
