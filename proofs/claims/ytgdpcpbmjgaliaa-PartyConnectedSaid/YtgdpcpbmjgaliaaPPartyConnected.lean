/-
  PartyConnected: for every input the law returns true: Connected and Circle agree with the definition for arbitrary parties. No condition.
-/
import Derived.Test.YtgdpcpbmjgaliaaPL5
import Derived.Test.YtgdpcpbmjgaliaaFrameP
namespace Go.Proofs.Ytgdpcpbmjgaliaa
open Go.RowKit Nd
open Go.ChangeShapes Go.WideShapes Go.ChangeAt
open Go.ChangeMaps (open_string shut_string)

theorem i64rng {a : Int} (h : (Lit.int .i64 a).wf = true) : -9223372036854775808 ≤ a ∧ a ≤ 9223372036854775807 := by simpa [Lit.wf, IntKind.min, IntKind.max, IntKind.signed, IntKind.bits] using h

set_option maxRecDepth 100000 in
theorem partyConnected_lifted (os : Os) (started : os.Started) (H : Type) (enc : TypeId × Value → H) :
    ReturnsInHanded {} Try.checked os 6 .any (Rows.partyConnectedSpec.pre6 enc Try.prog Try.f6 [] false) (Rows.partyConnectedSpec.post enc Try.prog Try.f6 false true false false) := by
  refine returnsInHanded_of_change (C := Try.checked) own started (by kernel_rfl) Try.func6
    (ChangeSpec.witness6 (enc := enc) (C := Try.checked) false ⟨#[], #[.agg #[.slice none 0 0, .slice none 0 0, .slice none 0 0], .int .i64 0, .int .i64 0], []⟩ 8 (by kernel_rfl) (by kernel_rfl) (by kernel_rfl) (by kernel_rfl)) ?_
  intro W base args ds gs before hval0 hW _ _
  have hval : ∀ (j : Nat) t v, Try.f6.params[j]? = some t → args[j]? = some v → Value.okWide Try.prog W .any base t v := hval0
  have hW' := hW
  obtain ⟨p, q, hA0, hV, rfl, _, _⟩ := hW
  have hA : DataW.TrodAll enc Try.prog W 0 (fun _ => true) true Try.f6.params.toList args.toList ds p := hA0
  rw [Try.params6] at hA hval
  obtain ⟨v0, v1, v2, d0, d1, d2, p0, p1, p2, rfl, rfl, rfl, h0, h1, h2⟩ := trodAll_three hA
  obtain ⟨rfl, rfl⟩ := trodVars_none hV
  obtain ⟨P0, rfl, a0⟩ := open_parties (hval 0 26 v0 rfl rfl) h0
  obtain ⟨a1, rfl, rfl, rfl, b1⟩ := open_int Try.underlying3 (hval 1 3 v1 rfl rfl) h1
  obtain ⟨a2, rfl, rfl, rfl, b2⟩ := open_int Try.underlying3 (hval 2 3 v2 rfl rfl) h2
  simp only [List.append_nil] at hW'
  refine (lpconnected_any P0 a1 a2 W a0 (i64rng b1) (i64rng b2)).mono fun e W' ⟨he, hch⟩ => ?_
  subst he
  exact ⟨_, rfl, _, _, _, [], _, [], hW', trodAll_mk1 (shut_bool Try.underlying4 _), args_again (by rw [Try.params6]; exact of_decide_eq_true (by kernel_rfl)) hA0 hch.below, rfl, hch.below.frame _, fun h => by cases h⟩

theorem partyConnected_k0 : (Rows.partyConnectedRow.wf (OpenSpec.ofChange Rows.partyConnectedSpec)) = true := by kernel_rfl
theorem partyConnected_k1 : (laidOutB Try.pinned.checked.prog) = true := by kernel_rfl
theorem partyConnected_k2 : (mapsRowed Try.pinned.checked.prog) = true := by kernel_rfl
theorem partyConnected_k3 : (Try.f6.params.all (Try.pinned.checked.prog.readableRec ·)) = true := by kernel_rfl
theorem partyConnected_k4 : (namedTie Try.pinned.checked.prog Rows.partyConnectedRow.named Rows.partyConnectedSpec.vars) = true := by kernel_rfl
theorem partyConnected_k5 : (Rows.partyConnectedRow.stops == []) = true := by kernel_rfl
theorem partyConnected_k6 : (Try.pinned.checked.prog.stops == []) = true := by kernel_rfl
theorem partyConnected_k7 : (Rows.partyConnectedRow.knobs == []) = true := by kernel_rfl
theorem partyConnected_k8 : (Try.pinned.checked.prog.stopKnobs == []) = true := by kernel_rfl
theorem partyConnected_k9 : (Rows.partyConnectedRow.inPlace == Try.pinned.checked.prog.inPlace 6) = true := by kernel_rfl
theorem partyConnected_k10 : (Rows.partyConnectedRow.unfollowed == Try.pinned.checked.prog.unfollowed 6) = true := by kernel_rfl
theorem partyConnected_k11 : (Rows.partyConnectedRow.recurses == Try.pinned.checked.prog.recurses 6) = true := by kernel_rfl
theorem partyConnected_k12 : (Rows.partyConnectedRow.named == Try.pinned.checked.prog.varsNamed 6) = true := by kernel_rfl
theorem partyConnected_k13 : (Rows.partyConnectedRow.maps == (Try.f6.params.toList ++ Rows.partyConnectedSpec.plain.varTypes Try.pinned.checked.prog).any (Try.pinned.checked.prog.mapsRec ·)) = true := by kernel_rfl
theorem partyConnected_k14 : (Rows.partyConnectedRow.ifaces == (Try.f6.params.toList ++ Rows.partyConnectedSpec.plain.varTypes Try.pinned.checked.prog).any (Try.pinned.checked.prog.ifacesRec ·)) = true := by kernel_rfl
theorem partyConnected_k15 : (Rows.partyConnectedRow.mapsOut == Try.pinned.checked.prog.mapsAmong Try.f6.resultTypes.toList) = true := by kernel_rfl
theorem partyConnected_k16 : (Rows.partyConnectedRow.loops == (Try.f6.params.toList ++ Rows.partyConnectedSpec.plain.varTypes Try.pinned.checked.prog).any (Try.pinned.checked.prog.loopsFrom ·)) = true := by kernel_rfl
theorem partyConnected_k17 : (Rows.partyConnectedRow.wideKeys == (Try.f6.params.toList ++ Rows.partyConnectedSpec.plain.varTypes Try.pinned.checked.prog ++ Try.f6.resultTypes.toList).any (Try.pinned.checked.prog.wideKeysFrom ·)) = true := by kernel_rfl
theorem partyConnected_k18 : (Rows.partyConnectedSpec.vars.all (Try.pinned.checked.prog.varReadable ·)) = true := by kernel_rfl
theorem partyConnected_k19 : (Try.f6.resultTypes.all (fun t => Try.pinned.checked.prog.readableRec t && decide (t < Try.pinned.checked.prog.types.size))) = true := by kernel_rfl
theorem partyConnected_k20 : (Rows.partyConnectedRow.ifacesOut == Try.f6.resultTypes.toList.any (Try.pinned.checked.prog.ifacesRec ·)) = true := by kernel_rfl
theorem partyConnected_k21 : (Rows.partyConnectedRow.loopsOut == Try.f6.resultTypes.toList.any (Try.pinned.checked.prog.loopsFrom ·)) = true := by kernel_rfl
theorem partyConnected_k22 : (Rows.partyConnectedRow.plainKeys == Try.pinned.checked.prog.plainKeys) = true := by kernel_rfl
theorem partyConnected_k23 : (Rows.partyConnectedRow.shortTexts.isNone) = true := by kernel_rfl
theorem partyConnected_k24 : (Try.pinned.checked.prog.stopsHeard) = true := by kernel_rfl
theorem partyConnected_k25 : (Try.pinned.checked.prog.mayEnter) = true := by kernel_rfl
theorem partyConnected_k26 : (Rows.partyConnectedRow.lifted == Try.pinned.checked.prog.liftsFinal) = true := by kernel_rfl
theorem partyConnected_k27 : (Try.pinned.checked.prog.make == some Rows.partyConnectedRow.make) = true := by kernel_rfl
theorem partyConnected_k28 : (Rows.partyConnectedRow.kinds == (if Rows.partyConnectedRow.domain.isEmpty then [] else Try.f6.params.toList.map fun t => match Try.pinned.checked.prog.underlying t with | some (.int k) => some k | _ => none)) = true := by kernel_rfl
theorem partyConnected_k29 : (Rows.partyConnectedRow.pinned == Rows.partyConnectedRow.pinnedBy) = true := by kernel_rfl
theorem partyConnected_k30 : (Rows.partyConnectedRow.veiled == (Try.f6.params.toList ++ Rows.partyConnectedSpec.plain.varTypes Try.pinned.checked.prog ++ Try.f6.resultTypes.toList).any (Try.pinned.checked.prog.veiledRec ·)) = true := by kernel_rfl
theorem partyConnected_k31 : (Rows.partyConnectedRow.veiledFits Try.pinned.checked.prog Try.f6.params.toList (Try.f6.params.toList ++ Rows.partyConnectedSpec.plain.varTypes Try.pinned.checked.prog ++ Try.f6.resultTypes.toList)) = true := by kernel_rfl
set_option maxRecDepth 100000 in
theorem partyConnected_closed : joinedFacts Try.pinned.checked.prog 6 Try.f6 Rows.partyConnectedSpec Rows.partyConnectedRow = true := by
  simp only [joinedFacts, Bool.and_eq_true]
  exact ⟨⟨⟨⟨⟨⟨⟨⟨⟨⟨⟨⟨⟨⟨⟨⟨⟨⟨⟨⟨⟨⟨⟨⟨⟨⟨⟨⟨⟨⟨⟨partyConnected_k0, partyConnected_k1⟩, partyConnected_k2⟩, partyConnected_k3⟩, partyConnected_k4⟩, partyConnected_k5⟩, partyConnected_k6⟩, partyConnected_k7⟩, partyConnected_k8⟩, partyConnected_k9⟩, partyConnected_k10⟩, partyConnected_k11⟩, partyConnected_k12⟩, partyConnected_k13⟩, partyConnected_k14⟩, partyConnected_k15⟩, partyConnected_k16⟩, partyConnected_k17⟩, partyConnected_k18⟩, partyConnected_k19⟩, partyConnected_k20⟩, partyConnected_k21⟩, partyConnected_k22⟩, partyConnected_k23⟩, partyConnected_k24⟩, partyConnected_k25⟩, partyConnected_k26⟩, partyConnected_k27⟩, partyConnected_k28⟩, partyConnected_k29⟩, partyConnected_k30⟩, partyConnected_k31⟩

theorem partyConnected_holds : Rows.PartyConnectedSaid :=
  OpenClaim.holds_of_wide 6 Try.f6 rfl rfl rfl rfl rfl rfl rfl ⟨rfl, rfl, rfl, rfl, rfl⟩ rfl rfl rfl rfl rfl (by kernel_rfl) Try.func6 partyConnected_closed
    (of_decide_eq_true (by kernel_rfl)) (by unfold Func.isWrapper; first | (rw [if_pos (by decide +kernel)]; kernel_rfl) | (rw [if_neg (by decide +kernel)]; exact ⟨rfl, rfl⟩))
    (fun os started H enc _ => partyConnected_lifted os started H enc)

end Go.Proofs.Ytgdpcpbmjgaliaa
