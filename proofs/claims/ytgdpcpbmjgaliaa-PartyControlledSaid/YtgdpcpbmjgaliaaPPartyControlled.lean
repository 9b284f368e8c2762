/-
  PartyControlled: for every input the law returns true: Controlled and Controls agree with the definition for arbitrary parties. No condition.
-/
import Derived.Test.YtgdpcpbmjgaliaaPL4
import Derived.Test.YtgdpcpbmjgaliaaFrameP
namespace Go.Proofs.Ytgdpcpbmjgaliaa
open Go.RowKit Nd
open Go.ChangeShapes Go.WideShapes Go.ChangeAt
open Go.ChangeMaps (open_string shut_string)

theorem i64rng {a : Int} (h : (Lit.int .i64 a).wf = true) : -9223372036854775808 ≤ a ∧ a ≤ 9223372036854775807 := by simpa [Lit.wf, IntKind.min, IntKind.max, IntKind.signed, IntKind.bits] using h

set_option maxRecDepth 100000 in
theorem partyControlled_lifted (os : Os) (started : os.Started) (H : Type) (enc : TypeId × Value → H) :
    ReturnsInHanded {} Try.checked os 5 .any (Rows.partyControlledSpec.pre6 enc Try.prog Try.f5 [] false) (Rows.partyControlledSpec.post enc Try.prog Try.f5 false true false false) := by
  refine returnsInHanded_of_change (C := Try.checked) own started (by kernel_rfl) Try.func5
    (ChangeSpec.witness6 (enc := enc) (C := Try.checked) false ⟨#[], #[.agg #[.slice none 0 0, .slice none 0 0, .slice none 0 0], .int .i64 0, .int .i64 0], []⟩ 8 (by kernel_rfl) (by kernel_rfl) (by kernel_rfl) (by kernel_rfl)) ?_
  intro W base args ds gs before hval0 hW _ _
  have hval : ∀ (j : Nat) t v, Try.f5.params[j]? = some t → args[j]? = some v → Value.okWide Try.prog W .any base t v := hval0
  have hW' := hW
  obtain ⟨p, q, hA0, hV, rfl, _, _⟩ := hW
  have hA : DataW.TrodAll enc Try.prog W 0 (fun _ => true) true Try.f5.params.toList args.toList ds p := hA0
  rw [Try.params5] at hA hval
  obtain ⟨v0, v1, v2, d0, d1, d2, p0, p1, p2, rfl, rfl, rfl, h0, h1, h2⟩ := trodAll_three hA
  obtain ⟨rfl, rfl⟩ := trodVars_none hV
  obtain ⟨P0, rfl, a0⟩ := open_parties (hval 0 26 v0 rfl rfl) h0
  obtain ⟨a1, rfl, rfl, rfl, b1⟩ := open_int Try.underlying3 (hval 1 3 v1 rfl rfl) h1
  obtain ⟨a2, rfl, rfl, rfl, b2⟩ := open_int Try.underlying3 (hval 2 3 v2 rfl rfl) h2
  simp only [List.append_nil] at hW'
  refine (lpcontrolled_any P0 a1 a2 W a0 (i64rng b1) (i64rng b2)).mono fun e W' ⟨he, hch⟩ => ?_
  subst he
  exact ⟨_, rfl, _, _, _, [], _, [], hW', trodAll_mk1 (shut_bool Try.underlying4 _), args_again (by rw [Try.params5]; exact of_decide_eq_true (by kernel_rfl)) hA0 hch.below, rfl, hch.below.frame _, fun h => by cases h⟩

theorem partyControlled_k0 : (Rows.partyControlledRow.wf (OpenSpec.ofChange Rows.partyControlledSpec)) = true := by kernel_rfl
theorem partyControlled_k1 : (laidOutB Try.pinned.checked.prog) = true := by kernel_rfl
theorem partyControlled_k2 : (mapsRowed Try.pinned.checked.prog) = true := by kernel_rfl
theorem partyControlled_k3 : (Try.f5.params.all (Try.pinned.checked.prog.readableRec ·)) = true := by kernel_rfl
theorem partyControlled_k4 : (namedTie Try.pinned.checked.prog Rows.partyControlledRow.named Rows.partyControlledSpec.vars) = true := by kernel_rfl
theorem partyControlled_k5 : (Rows.partyControlledRow.stops == []) = true := by kernel_rfl
theorem partyControlled_k6 : (Try.pinned.checked.prog.stops == []) = true := by kernel_rfl
theorem partyControlled_k7 : (Rows.partyControlledRow.knobs == []) = true := by kernel_rfl
theorem partyControlled_k8 : (Try.pinned.checked.prog.stopKnobs == []) = true := by kernel_rfl
theorem partyControlled_k9 : (Rows.partyControlledRow.inPlace == Try.pinned.checked.prog.inPlace 5) = true := by kernel_rfl
theorem partyControlled_k10 : (Rows.partyControlledRow.unfollowed == Try.pinned.checked.prog.unfollowed 5) = true := by kernel_rfl
theorem partyControlled_k11 : (Rows.partyControlledRow.recurses == Try.pinned.checked.prog.recurses 5) = true := by kernel_rfl
theorem partyControlled_k12 : (Rows.partyControlledRow.named == Try.pinned.checked.prog.varsNamed 5) = true := by kernel_rfl
theorem partyControlled_k13 : (Rows.partyControlledRow.maps == (Try.f5.params.toList ++ Rows.partyControlledSpec.plain.varTypes Try.pinned.checked.prog).any (Try.pinned.checked.prog.mapsRec ·)) = true := by kernel_rfl
theorem partyControlled_k14 : (Rows.partyControlledRow.ifaces == (Try.f5.params.toList ++ Rows.partyControlledSpec.plain.varTypes Try.pinned.checked.prog).any (Try.pinned.checked.prog.ifacesRec ·)) = true := by kernel_rfl
theorem partyControlled_k15 : (Rows.partyControlledRow.mapsOut == Try.pinned.checked.prog.mapsAmong Try.f5.resultTypes.toList) = true := by kernel_rfl
theorem partyControlled_k16 : (Rows.partyControlledRow.loops == (Try.f5.params.toList ++ Rows.partyControlledSpec.plain.varTypes Try.pinned.checked.prog).any (Try.pinned.checked.prog.loopsFrom ·)) = true := by kernel_rfl
theorem partyControlled_k17 : (Rows.partyControlledRow.wideKeys == (Try.f5.params.toList ++ Rows.partyControlledSpec.plain.varTypes Try.pinned.checked.prog ++ Try.f5.resultTypes.toList).any (Try.pinned.checked.prog.wideKeysFrom ·)) = true := by kernel_rfl
theorem partyControlled_k18 : (Rows.partyControlledSpec.vars.all (Try.pinned.checked.prog.varReadable ·)) = true := by kernel_rfl
theorem partyControlled_k19 : (Try.f5.resultTypes.all (fun t => Try.pinned.checked.prog.readableRec t && decide (t < Try.pinned.checked.prog.types.size))) = true := by kernel_rfl
theorem partyControlled_k20 : (Rows.partyControlledRow.ifacesOut == Try.f5.resultTypes.toList.any (Try.pinned.checked.prog.ifacesRec ·)) = true := by kernel_rfl
theorem partyControlled_k21 : (Rows.partyControlledRow.loopsOut == Try.f5.resultTypes.toList.any (Try.pinned.checked.prog.loopsFrom ·)) = true := by kernel_rfl
theorem partyControlled_k22 : (Rows.partyControlledRow.plainKeys == Try.pinned.checked.prog.plainKeys) = true := by kernel_rfl
theorem partyControlled_k23 : (Rows.partyControlledRow.shortTexts.isNone) = true := by kernel_rfl
theorem partyControlled_k24 : (Try.pinned.checked.prog.stopsHeard) = true := by kernel_rfl
theorem partyControlled_k25 : (Try.pinned.checked.prog.mayEnter) = true := by kernel_rfl
theorem partyControlled_k26 : (Rows.partyControlledRow.lifted == Try.pinned.checked.prog.liftsFinal) = true := by kernel_rfl
theorem partyControlled_k27 : (Try.pinned.checked.prog.make == some Rows.partyControlledRow.make) = true := by kernel_rfl
theorem partyControlled_k28 : (Rows.partyControlledRow.kinds == (if Rows.partyControlledRow.domain.isEmpty then [] else Try.f5.params.toList.map fun t => match Try.pinned.checked.prog.underlying t with | some (.int k) => some k | _ => none)) = true := by kernel_rfl
theorem partyControlled_k29 : (Rows.partyControlledRow.pinned == Rows.partyControlledRow.pinnedBy) = true := by kernel_rfl
theorem partyControlled_k30 : (Rows.partyControlledRow.veiled == (Try.f5.params.toList ++ Rows.partyControlledSpec.plain.varTypes Try.pinned.checked.prog ++ Try.f5.resultTypes.toList).any (Try.pinned.checked.prog.veiledRec ·)) = true := by kernel_rfl
theorem partyControlled_k31 : (Rows.partyControlledRow.veiledFits Try.pinned.checked.prog Try.f5.params.toList (Try.f5.params.toList ++ Rows.partyControlledSpec.plain.varTypes Try.pinned.checked.prog ++ Try.f5.resultTypes.toList)) = true := by kernel_rfl
set_option maxRecDepth 100000 in
theorem partyControlled_closed : joinedFacts Try.pinned.checked.prog 5 Try.f5 Rows.partyControlledSpec Rows.partyControlledRow = true := by
  simp only [joinedFacts, Bool.and_eq_true]
  exact ⟨⟨⟨⟨⟨⟨⟨⟨⟨⟨⟨⟨⟨⟨⟨⟨⟨⟨⟨⟨⟨⟨⟨⟨⟨⟨⟨⟨⟨⟨⟨partyControlled_k0, partyControlled_k1⟩, partyControlled_k2⟩, partyControlled_k3⟩, partyControlled_k4⟩, partyControlled_k5⟩, partyControlled_k6⟩, partyControlled_k7⟩, partyControlled_k8⟩, partyControlled_k9⟩, partyControlled_k10⟩, partyControlled_k11⟩, partyControlled_k12⟩, partyControlled_k13⟩, partyControlled_k14⟩, partyControlled_k15⟩, partyControlled_k16⟩, partyControlled_k17⟩, partyControlled_k18⟩, partyControlled_k19⟩, partyControlled_k20⟩, partyControlled_k21⟩, partyControlled_k22⟩, partyControlled_k23⟩, partyControlled_k24⟩, partyControlled_k25⟩, partyControlled_k26⟩, partyControlled_k27⟩, partyControlled_k28⟩, partyControlled_k29⟩, partyControlled_k30⟩, partyControlled_k31⟩

theorem partyControlled_holds : Rows.PartyControlledSaid :=
  OpenClaim.holds_of_wide 5 Try.f5 rfl rfl rfl rfl rfl rfl rfl ⟨rfl, rfl, rfl, rfl, rfl⟩ rfl rfl rfl rfl rfl (by kernel_rfl) Try.func5 partyControlled_closed
    (of_decide_eq_true (by kernel_rfl)) (by unfold Func.isWrapper; first | (rw [if_pos (by decide +kernel)]; kernel_rfl) | (rw [if_neg (by decide +kernel)]; exact ⟨rfl, rfl⟩))
    (fun os started H enc _ => partyControlled_lifted os started H enc)

end Go.Proofs.Ytgdpcpbmjgaliaa
