/-
  PartyMany: for every input the law returns true: which numbers of parties, stakes and ties are accepted. No condition.
-/
import Derived.Test.YtgdpcpbmjgaliaaPL3
import Derived.Test.YtgdpcpbmjgaliaaFrameP
namespace Go.Proofs.Ytgdpcpbmjgaliaa
open Go.RowKit Nd
open Go.ChangeShapes Go.WideShapes Go.ChangeAt
open Go.ChangeMaps (open_string shut_string)

set_option maxRecDepth 100000 in
theorem partyMany_lifted (os : Os) (started : os.Started) (H : Type) (enc : TypeId × Value → H) :
    ReturnsInHanded {} Try.checked os 4 .any (Rows.partyManySpec.pre6 enc Try.prog Try.f4 [] false) (Rows.partyManySpec.post enc Try.prog Try.f4 false true false false) := by
  refine returnsInHanded_of_change (C := Try.checked) own started (by kernel_rfl) Try.func4
    (ChangeSpec.witness6 (enc := enc) (C := Try.checked) false ⟨#[], #[.int .u8 0, .int .u8 0, .int .u8 0], []⟩ 8 (by kernel_rfl) (by kernel_rfl) (by kernel_rfl) (by kernel_rfl)) ?_
  intro W base args ds gs before hval0 hW _ _
  have hval : ∀ (j : Nat) t v, Try.f4.params[j]? = some t → args[j]? = some v → Value.okWide Try.prog W .any base t v := hval0
  have hW' := hW
  obtain ⟨p, q, hA0, hV, rfl, _, _⟩ := hW
  have hA : DataW.TrodAll enc Try.prog W 0 (fun _ => true) true Try.f4.params.toList args.toList ds p := hA0
  rw [Try.params4] at hA hval
  obtain ⟨v0, v1, v2, d0, d1, d2, p0, p1, p2, rfl, rfl, rfl, h0, h1, h2⟩ := trodAll_three hA
  obtain ⟨rfl, rfl⟩ := trodVars_none hV
  obtain ⟨a0, rfl, rfl, rfl, b0⟩ := open_int Try.underlying5 (hval 0 5 v0 rfl rfl) h0
  obtain ⟨a1, rfl, rfl, rfl, b1⟩ := open_int Try.underlying5 (hval 1 5 v1 rfl rfl) h1
  obtain ⟨a2, rfl, rfl, rfl, b2⟩ := open_int Try.underlying5 (hval 2 5 v2 rfl rfl) h2
  simp only [List.append_nil] at hW'
  refine (lpmany_any a0 a1 a2 W (rngU8 b0) (rngU8 b1) (rngU8 b2)).mono fun e W' ⟨he, hch⟩ => ?_
  subst he
  exact ⟨_, rfl, _, _, _, [], [], [], hW', trodAll_mk1 (shut_bool Try.underlying4 _), trodAll_mk3 (shut_int Try.underlying5 b0) (shut_int Try.underlying5 b1) (shut_int Try.underlying5 b2), rfl, hch.below.frame _, fun h => by cases h⟩

theorem partyMany_k0 : (Rows.partyManyRow.wf (OpenSpec.ofChange Rows.partyManySpec)) = true := by kernel_rfl
theorem partyMany_k1 : (laidOutB Try.pinned.checked.prog) = true := by kernel_rfl
theorem partyMany_k2 : (mapsRowed Try.pinned.checked.prog) = true := by kernel_rfl
theorem partyMany_k3 : (Try.f4.params.all (Try.pinned.checked.prog.readableRec ·)) = true := by kernel_rfl
theorem partyMany_k4 : (namedTie Try.pinned.checked.prog Rows.partyManyRow.named Rows.partyManySpec.vars) = true := by kernel_rfl
theorem partyMany_k5 : (Rows.partyManyRow.stops == []) = true := by kernel_rfl
theorem partyMany_k6 : (Try.pinned.checked.prog.stops == []) = true := by kernel_rfl
theorem partyMany_k7 : (Rows.partyManyRow.knobs == []) = true := by kernel_rfl
theorem partyMany_k8 : (Try.pinned.checked.prog.stopKnobs == []) = true := by kernel_rfl
theorem partyMany_k9 : (Rows.partyManyRow.inPlace == Try.pinned.checked.prog.inPlace 4) = true := by kernel_rfl
theorem partyMany_k10 : (Rows.partyManyRow.unfollowed == Try.pinned.checked.prog.unfollowed 4) = true := by kernel_rfl
theorem partyMany_k11 : (Rows.partyManyRow.recurses == Try.pinned.checked.prog.recurses 4) = true := by kernel_rfl
theorem partyMany_k12 : (Rows.partyManyRow.named == Try.pinned.checked.prog.varsNamed 4) = true := by kernel_rfl
theorem partyMany_k13 : (Rows.partyManyRow.maps == (Try.f4.params.toList ++ Rows.partyManySpec.plain.varTypes Try.pinned.checked.prog).any (Try.pinned.checked.prog.mapsRec ·)) = true := by kernel_rfl
theorem partyMany_k14 : (Rows.partyManyRow.ifaces == (Try.f4.params.toList ++ Rows.partyManySpec.plain.varTypes Try.pinned.checked.prog).any (Try.pinned.checked.prog.ifacesRec ·)) = true := by kernel_rfl
theorem partyMany_k15 : (Rows.partyManyRow.mapsOut == Try.pinned.checked.prog.mapsAmong Try.f4.resultTypes.toList) = true := by kernel_rfl
theorem partyMany_k16 : (Rows.partyManyRow.loops == (Try.f4.params.toList ++ Rows.partyManySpec.plain.varTypes Try.pinned.checked.prog).any (Try.pinned.checked.prog.loopsFrom ·)) = true := by kernel_rfl
theorem partyMany_k17 : (Rows.partyManyRow.wideKeys == (Try.f4.params.toList ++ Rows.partyManySpec.plain.varTypes Try.pinned.checked.prog ++ Try.f4.resultTypes.toList).any (Try.pinned.checked.prog.wideKeysFrom ·)) = true := by kernel_rfl
theorem partyMany_k18 : (Rows.partyManySpec.vars.all (Try.pinned.checked.prog.varReadable ·)) = true := by kernel_rfl
theorem partyMany_k19 : (Try.f4.resultTypes.all (fun t => Try.pinned.checked.prog.readableRec t && decide (t < Try.pinned.checked.prog.types.size))) = true := by kernel_rfl
theorem partyMany_k20 : (Rows.partyManyRow.ifacesOut == Try.f4.resultTypes.toList.any (Try.pinned.checked.prog.ifacesRec ·)) = true := by kernel_rfl
theorem partyMany_k21 : (Rows.partyManyRow.loopsOut == Try.f4.resultTypes.toList.any (Try.pinned.checked.prog.loopsFrom ·)) = true := by kernel_rfl
theorem partyMany_k22 : (Rows.partyManyRow.plainKeys == Try.pinned.checked.prog.plainKeys) = true := by kernel_rfl
theorem partyMany_k23 : (Rows.partyManyRow.shortTexts.isNone) = true := by kernel_rfl
theorem partyMany_k24 : (Try.pinned.checked.prog.stopsHeard) = true := by kernel_rfl
theorem partyMany_k25 : (Try.pinned.checked.prog.mayEnter) = true := by kernel_rfl
theorem partyMany_k26 : (Rows.partyManyRow.lifted == Try.pinned.checked.prog.liftsFinal) = true := by kernel_rfl
theorem partyMany_k27 : (Try.pinned.checked.prog.make == some Rows.partyManyRow.make) = true := by kernel_rfl
theorem partyMany_k28 : (Rows.partyManyRow.kinds == (if Rows.partyManyRow.domain.isEmpty then [] else Try.f4.params.toList.map fun t => match Try.pinned.checked.prog.underlying t with | some (.int k) => some k | _ => none)) = true := by kernel_rfl
theorem partyMany_k29 : (Rows.partyManyRow.pinned == Rows.partyManyRow.pinnedBy) = true := by kernel_rfl
theorem partyMany_k30 : (Rows.partyManyRow.veiled == (Try.f4.params.toList ++ Rows.partyManySpec.plain.varTypes Try.pinned.checked.prog ++ Try.f4.resultTypes.toList).any (Try.pinned.checked.prog.veiledRec ·)) = true := by kernel_rfl
theorem partyMany_k31 : (Rows.partyManyRow.veiledFits Try.pinned.checked.prog Try.f4.params.toList (Try.f4.params.toList ++ Rows.partyManySpec.plain.varTypes Try.pinned.checked.prog ++ Try.f4.resultTypes.toList)) = true := by kernel_rfl
set_option maxRecDepth 100000 in
theorem partyMany_closed : joinedFacts Try.pinned.checked.prog 4 Try.f4 Rows.partyManySpec Rows.partyManyRow = true := by
  simp only [joinedFacts, Bool.and_eq_true]
  exact ⟨⟨⟨⟨⟨⟨⟨⟨⟨⟨⟨⟨⟨⟨⟨⟨⟨⟨⟨⟨⟨⟨⟨⟨⟨⟨⟨⟨⟨⟨⟨partyMany_k0, partyMany_k1⟩, partyMany_k2⟩, partyMany_k3⟩, partyMany_k4⟩, partyMany_k5⟩, partyMany_k6⟩, partyMany_k7⟩, partyMany_k8⟩, partyMany_k9⟩, partyMany_k10⟩, partyMany_k11⟩, partyMany_k12⟩, partyMany_k13⟩, partyMany_k14⟩, partyMany_k15⟩, partyMany_k16⟩, partyMany_k17⟩, partyMany_k18⟩, partyMany_k19⟩, partyMany_k20⟩, partyMany_k21⟩, partyMany_k22⟩, partyMany_k23⟩, partyMany_k24⟩, partyMany_k25⟩, partyMany_k26⟩, partyMany_k27⟩, partyMany_k28⟩, partyMany_k29⟩, partyMany_k30⟩, partyMany_k31⟩

theorem partyMany_holds : Rows.PartyManySaid :=
  OpenClaim.holds_of_wide 4 Try.f4 rfl rfl rfl rfl rfl rfl rfl ⟨rfl, rfl, rfl, rfl, rfl⟩ rfl rfl rfl rfl rfl (by kernel_rfl) Try.func4 partyMany_closed
    (of_decide_eq_true (by kernel_rfl)) (by unfold Func.isWrapper; first | (rw [if_pos (by decide +kernel)]; kernel_rfl) | (rw [if_neg (by decide +kernel)]; exact ⟨rfl, rfl⟩))
    (fun os started H enc _ => partyMany_lifted os started H enc)

end Go.Proofs.Ytgdpcpbmjgaliaa
