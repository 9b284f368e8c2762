/-
  CurrencyBack: for every input the law returns true: converting back returns the amount, and converting through a third currency gives the same as converting directly. No condition.
-/
import Derived.Test.YtkdcffcgedhllaaKL5
import Derived.Test.YtkdcffcgedhllaaFrameK
namespace Go.Proofs.Ytkdcffcgedhllaa
open Go.RowKit Nd
open Go.ChangeShapes Go.WideShapes Go.ChangeAt
open Go.ChangeMaps (open_string shut_string)

set_option maxRecDepth 100000 in
theorem currencyBack_lifted (os : Os) (started : os.Started) (H : Type) (enc : TypeId × Value → H) :
    ReturnsInHanded {} Try.checked os 9 .any (Rows.currencyBackSpec.pre6 enc Try.prog Try.f9 [] false) (Rows.currencyBackSpec.post enc Try.prog Try.f9 false true false false) := by
  refine returnsInHanded_of_change (C := Try.checked) own started (by kernel_rfl) Try.func9
    (ChangeSpec.witness6 (enc := enc) (C := Try.checked) false ⟨#[], #[.slice none 0 0, .int .u16 0, .int .u8 0, .int .u8 0, .int .u8 0, .int .u8 0], []⟩ 8 (by kernel_rfl) (by kernel_rfl) (by kernel_rfl) (by kernel_rfl)) ?_
  intro W base args ds gs before hval0 hW _ _
  have hval : ∀ (j : Nat) t v, Try.f9.params[j]? = some t → args[j]? = some v → Value.okWide Try.prog W .any base t v := hval0
  have hW' := hW
  obtain ⟨p, q, hA0, hV, rfl, _, _⟩ := hW
  have hA : DataW.TrodAll enc Try.prog W 0 (fun _ => true) true Try.f9.params.toList args.toList ds p := hA0
  rw [Try.params9] at hA hval
  obtain ⟨v0, v1, v2, v3, v4, v5, d0, d1, d2, d3, d4, d5, p0, p1, p2, p3, p4, p5, rfl, rfl, rfl, h0, h1, h2, h3, h4, h5⟩ := trodAll_six hA
  obtain ⟨rfl, rfl⟩ := trodVars_none hV
  obtain ⟨A0, cap0, a0, rfl, b0, c0, e0, g0⟩ := open_t3s (hval 0 44 v0 rfl rfl) h0
  obtain ⟨a1, rfl, rfl, rfl, b1⟩ := open_int Try.underlying28 (hval 1 28 v1 rfl rfl) h1
  obtain ⟨a2, rfl, rfl, rfl, b2⟩ := open_int Try.underlying5 (hval 2 5 v2 rfl rfl) h2
  obtain ⟨a3, rfl, rfl, rfl, b3⟩ := open_int Try.underlying5 (hval 3 5 v3 rfl rfl) h3
  obtain ⟨a4, rfl, rfl, rfl, b4⟩ := open_int Try.underlying5 (hval 4 5 v4 rfl rfl) h4
  obtain ⟨a5, rfl, rfl, rfl, b5⟩ := open_int Try.underlying5 (hval 5 5 v5 rfl rfl) h5
  simp only [List.append_nil] at hW'
  refine (lqback_any a0 a1 a2 a3 a4 a5 _ A0 cap0 W (rngU16 b1) (rngU8 b2) (rngU8 b3) (rngU8 b4) (rngU8 b5) rfl g0 e0).mono fun e W' ⟨he, hch⟩ => ?_
  subst he
  exact ⟨_, rfl, _, _, _, [], _, [], hW', trodAll_mk1 (shut_bool Try.underlying4 _), args_again (by rw [Try.params9]; exact of_decide_eq_true (by kernel_rfl)) hA0 hch.below, rfl, hch.below.frame _, fun h => by cases h⟩

theorem currencyBack_k0 : (Rows.currencyBackRow.wf (OpenSpec.ofChange Rows.currencyBackSpec)) = true := by kernel_rfl
theorem currencyBack_k1 : (laidOutB Try.pinned.checked.prog) = true := by kernel_rfl
theorem currencyBack_k2 : (mapsRowed Try.pinned.checked.prog) = true := by kernel_rfl
theorem currencyBack_k3 : (Try.f9.params.all (Try.pinned.checked.prog.readableRec ·)) = true := by kernel_rfl
theorem currencyBack_k4 : (namedTie Try.pinned.checked.prog Rows.currencyBackRow.named Rows.currencyBackSpec.vars) = true := by kernel_rfl
theorem currencyBack_k5 : (Rows.currencyBackRow.stops == []) = true := by kernel_rfl
theorem currencyBack_k6 : (Try.pinned.checked.prog.stops == []) = true := by kernel_rfl
theorem currencyBack_k7 : (Rows.currencyBackRow.knobs == []) = true := by kernel_rfl
theorem currencyBack_k8 : (Try.pinned.checked.prog.stopKnobs == []) = true := by kernel_rfl
theorem currencyBack_k9 : (Rows.currencyBackRow.inPlace == Try.pinned.checked.prog.inPlace 9) = true := by kernel_rfl
theorem currencyBack_k10 : (Rows.currencyBackRow.unfollowed == Try.pinned.checked.prog.unfollowed 9) = true := by kernel_rfl
theorem currencyBack_k11 : (Rows.currencyBackRow.recurses == Try.pinned.checked.prog.recurses 9) = true := by kernel_rfl
theorem currencyBack_k12 : (Rows.currencyBackRow.named == Try.pinned.checked.prog.varsNamed 9) = true := by kernel_rfl
theorem currencyBack_k13 : (Rows.currencyBackRow.maps == (Try.f9.params.toList ++ Rows.currencyBackSpec.plain.varTypes Try.pinned.checked.prog).any (Try.pinned.checked.prog.mapsRec ·)) = true := by kernel_rfl
theorem currencyBack_k14 : (Rows.currencyBackRow.ifaces == (Try.f9.params.toList ++ Rows.currencyBackSpec.plain.varTypes Try.pinned.checked.prog).any (Try.pinned.checked.prog.ifacesRec ·)) = true := by kernel_rfl
theorem currencyBack_k15 : (Rows.currencyBackRow.mapsOut == Try.pinned.checked.prog.mapsAmong Try.f9.resultTypes.toList) = true := by kernel_rfl
theorem currencyBack_k16 : (Rows.currencyBackRow.loops == (Try.f9.params.toList ++ Rows.currencyBackSpec.plain.varTypes Try.pinned.checked.prog).any (Try.pinned.checked.prog.loopsFrom ·)) = true := by kernel_rfl
theorem currencyBack_k17 : (Rows.currencyBackRow.wideKeys == (Try.f9.params.toList ++ Rows.currencyBackSpec.plain.varTypes Try.pinned.checked.prog ++ Try.f9.resultTypes.toList).any (Try.pinned.checked.prog.wideKeysFrom ·)) = true := by kernel_rfl
theorem currencyBack_k18 : (Rows.currencyBackSpec.vars.all (Try.pinned.checked.prog.varReadable ·)) = true := by kernel_rfl
theorem currencyBack_k19 : (Try.f9.resultTypes.all (fun t => Try.pinned.checked.prog.readableRec t && decide (t < Try.pinned.checked.prog.types.size))) = true := by kernel_rfl
theorem currencyBack_k20 : (Rows.currencyBackRow.ifacesOut == Try.f9.resultTypes.toList.any (Try.pinned.checked.prog.ifacesRec ·)) = true := by kernel_rfl
theorem currencyBack_k21 : (Rows.currencyBackRow.loopsOut == Try.f9.resultTypes.toList.any (Try.pinned.checked.prog.loopsFrom ·)) = true := by kernel_rfl
theorem currencyBack_k22 : (Rows.currencyBackRow.plainKeys == Try.pinned.checked.prog.plainKeys) = true := by kernel_rfl
theorem currencyBack_k23 : (Rows.currencyBackRow.shortTexts.isNone) = true := by kernel_rfl
theorem currencyBack_k24 : (Try.pinned.checked.prog.stopsHeard) = true := by kernel_rfl
theorem currencyBack_k25 : (Try.pinned.checked.prog.mayEnter) = true := by kernel_rfl
theorem currencyBack_k26 : (Rows.currencyBackRow.lifted == Try.pinned.checked.prog.liftsFinal) = true := by kernel_rfl
theorem currencyBack_k27 : (Try.pinned.checked.prog.make == some Rows.currencyBackRow.make) = true := by kernel_rfl
theorem currencyBack_k28 : (Rows.currencyBackRow.kinds == (if Rows.currencyBackRow.domain.isEmpty then [] else Try.f9.params.toList.map fun t => match Try.pinned.checked.prog.underlying t with | some (.int k) => some k | _ => none)) = true := by kernel_rfl
theorem currencyBack_k29 : (Rows.currencyBackRow.pinned == Rows.currencyBackRow.pinnedBy) = true := by kernel_rfl
theorem currencyBack_k30 : (Rows.currencyBackRow.veiled == (Try.f9.params.toList ++ Rows.currencyBackSpec.plain.varTypes Try.pinned.checked.prog ++ Try.f9.resultTypes.toList).any (Try.pinned.checked.prog.veiledRec ·)) = true := by kernel_rfl
theorem currencyBack_k31 : (Rows.currencyBackRow.veiledFits Try.pinned.checked.prog Try.f9.params.toList (Try.f9.params.toList ++ Rows.currencyBackSpec.plain.varTypes Try.pinned.checked.prog ++ Try.f9.resultTypes.toList)) = true := by kernel_rfl
set_option maxRecDepth 100000 in
theorem currencyBack_closed : joinedFacts Try.pinned.checked.prog 9 Try.f9 Rows.currencyBackSpec Rows.currencyBackRow = true := by
  simp only [joinedFacts, Bool.and_eq_true]
  exact ⟨⟨⟨⟨⟨⟨⟨⟨⟨⟨⟨⟨⟨⟨⟨⟨⟨⟨⟨⟨⟨⟨⟨⟨⟨⟨⟨⟨⟨⟨⟨currencyBack_k0, currencyBack_k1⟩, currencyBack_k2⟩, currencyBack_k3⟩, currencyBack_k4⟩, currencyBack_k5⟩, currencyBack_k6⟩, currencyBack_k7⟩, currencyBack_k8⟩, currencyBack_k9⟩, currencyBack_k10⟩, currencyBack_k11⟩, currencyBack_k12⟩, currencyBack_k13⟩, currencyBack_k14⟩, currencyBack_k15⟩, currencyBack_k16⟩, currencyBack_k17⟩, currencyBack_k18⟩, currencyBack_k19⟩, currencyBack_k20⟩, currencyBack_k21⟩, currencyBack_k22⟩, currencyBack_k23⟩, currencyBack_k24⟩, currencyBack_k25⟩, currencyBack_k26⟩, currencyBack_k27⟩, currencyBack_k28⟩, currencyBack_k29⟩, currencyBack_k30⟩, currencyBack_k31⟩

theorem currencyBack_holds : Rows.CurrencyBackSaid :=
  OpenClaim.holds_of_wide 9 Try.f9 rfl rfl rfl rfl rfl rfl rfl ⟨rfl, rfl, rfl, rfl, rfl⟩ rfl rfl rfl rfl rfl (by kernel_rfl) Try.func9 currencyBack_closed
    (of_decide_eq_true (by kernel_rfl)) (by unfold Func.isWrapper; first | (rw [if_pos (by decide +kernel)]; kernel_rfl) | (rw [if_neg (by decide +kernel)]; exact ⟨rfl, rfl⟩))
    (fun os started H enc _ => currencyBack_lifted os started H enc)

end Go.Proofs.Ytkdcffcgedhllaa
