/-
  PartyBuilt: for every input the law returns true: all functions agree with the definition for valid parties. No condition.
-/
import Derived.Test.YtgdpcpbmjgaliaaPL6
import Derived.Test.YtgdpcpbmjgaliaaFrameB
namespace Go.Proofs.Ytgdpcpbmjgaliaa
open Go.RowKit Nd
open Go.ChangeShapes Go.WideShapes Go.ChangeAt
open Go.ChangeMaps (open_string shut_string)

set_option maxRecDepth 100000 in
theorem partyBuilt_lifted (os : Os) (started : os.Started) (H : Type) (enc : TypeId × Value → H) :
    ReturnsInHanded {} Try.checked os 7 .any (Rows.partyBuiltSpec.pre6 enc Try.prog Try.f7 [] false) (Rows.partyBuiltSpec.post enc Try.prog Try.f7 false true false false) := by
  refine returnsInHanded_of_change (C := Try.checked) own started (by kernel_rfl) Try.func7
    (ChangeSpec.witness6 (enc := enc) (C := Try.checked) false ⟨#[], #[.int .u8 0, .int .u16 0, .slice none 0 0, .slice none 0 0], []⟩ 8 (by kernel_rfl) (by kernel_rfl) (by kernel_rfl) (by kernel_rfl)) ?_
  intro W base args ds gs before hval0 hW _ _
  have hval : ∀ (j : Nat) t v, Try.f7.params[j]? = some t → args[j]? = some v → Value.okWide Try.prog W .any base t v := hval0
  have hW' := hW
  obtain ⟨p, q, hA0, hV, rfl, _, _⟩ := hW
  have hA : DataW.TrodAll enc Try.prog W 0 (fun _ => true) true Try.f7.params.toList args.toList ds p := hA0
  rw [Try.params7] at hA hval
  obtain ⟨v0, v1, v2, v3, d0, d1, d2, d3, p0, p1, p2, p3, rfl, rfl, rfl, h0, h1, h2, h3⟩ := trodAll_four hA
  obtain ⟨rfl, rfl⟩ := trodVars_none hV
  obtain ⟨a0, rfl, rfl, rfl, b0⟩ := open_int Try.underlying5 (hval 0 5 v0 rfl rfl) h0
  obtain ⟨a1, rfl, rfl, rfl, b1⟩ := open_int Try.underlying50 (hval 1 50 v1 rfl rfl) h1
  obtain ⟨A2, cap2, a2, rfl, b2, c2, e2, g2⟩ := open_t3s (hval 2 51 v2 rfl rfl) h2
  obtain ⟨A3, cap3, a3, rfl, b3, c3, e3, g3⟩ := open_t2s (hval 3 52 v3 rfl rfl) h3
  simp only [List.append_nil] at hW'
  refine (lpbuilt_any a0 a1 a2 a3 _ _ A2 A3 cap2 cap3 W (rngU8 b0) (rngU16 b1) rfl (Nat.le_trans b2 c2) g2 e2 rfl (Nat.le_trans b3 c3) g3 e3).mono fun e W' ⟨he, hch⟩ => ?_
  subst he
  exact ⟨_, rfl, _, _, _, [], _, [], hW', trodAll_mk1 (shut_bool Try.underlying4 _), args_again (by rw [Try.params7]; exact of_decide_eq_true (by kernel_rfl)) hA0 hch.below, rfl, hch.below.frame _, fun h => by cases h⟩

theorem partyBuilt_k0 : (Rows.partyBuiltRow.wf (OpenSpec.ofChange Rows.partyBuiltSpec)) = true := by kernel_rfl
theorem partyBuilt_k1 : (laidOutB Try.pinned.checked.prog) = true := by kernel_rfl
theorem partyBuilt_k2 : (mapsRowed Try.pinned.checked.prog) = true := by kernel_rfl
theorem partyBuilt_k3 : (Try.f7.params.all (Try.pinned.checked.prog.readableRec ·)) = true := by kernel_rfl
theorem partyBuilt_k4 : (namedTie Try.pinned.checked.prog Rows.partyBuiltRow.named Rows.partyBuiltSpec.vars) = true := by kernel_rfl
theorem partyBuilt_k5 : (Rows.partyBuiltRow.stops == []) = true := by kernel_rfl
theorem partyBuilt_k6 : (Try.pinned.checked.prog.stops == []) = true := by kernel_rfl
theorem partyBuilt_k7 : (Rows.partyBuiltRow.knobs == []) = true := by kernel_rfl
theorem partyBuilt_k8 : (Try.pinned.checked.prog.stopKnobs == []) = true := by kernel_rfl
theorem partyBuilt_k9 : (Rows.partyBuiltRow.inPlace == Try.pinned.checked.prog.inPlace 7) = true := by kernel_rfl
theorem partyBuilt_k10 : (Rows.partyBuiltRow.unfollowed == Try.pinned.checked.prog.unfollowed 7) = true := by kernel_rfl
theorem partyBuilt_k11 : (Rows.partyBuiltRow.recurses == Try.pinned.checked.prog.recurses 7) = true := by kernel_rfl
theorem partyBuilt_k12 : (Rows.partyBuiltRow.named == Try.pinned.checked.prog.varsNamed 7) = true := by kernel_rfl
theorem partyBuilt_k13 : (Rows.partyBuiltRow.maps == (Try.f7.params.toList ++ Rows.partyBuiltSpec.plain.varTypes Try.pinned.checked.prog).any (Try.pinned.checked.prog.mapsRec ·)) = true := by kernel_rfl
theorem partyBuilt_k14 : (Rows.partyBuiltRow.ifaces == (Try.f7.params.toList ++ Rows.partyBuiltSpec.plain.varTypes Try.pinned.checked.prog).any (Try.pinned.checked.prog.ifacesRec ·)) = true := by kernel_rfl
theorem partyBuilt_k15 : (Rows.partyBuiltRow.mapsOut == Try.pinned.checked.prog.mapsAmong Try.f7.resultTypes.toList) = true := by kernel_rfl
theorem partyBuilt_k16 : (Rows.partyBuiltRow.loops == (Try.f7.params.toList ++ Rows.partyBuiltSpec.plain.varTypes Try.pinned.checked.prog).any (Try.pinned.checked.prog.loopsFrom ·)) = true := by kernel_rfl
theorem partyBuilt_k17 : (Rows.partyBuiltRow.wideKeys == (Try.f7.params.toList ++ Rows.partyBuiltSpec.plain.varTypes Try.pinned.checked.prog ++ Try.f7.resultTypes.toList).any (Try.pinned.checked.prog.wideKeysFrom ·)) = true := by kernel_rfl
theorem partyBuilt_k18 : (Rows.partyBuiltSpec.vars.all (Try.pinned.checked.prog.varReadable ·)) = true := by kernel_rfl
theorem partyBuilt_k19 : (Try.f7.resultTypes.all (fun t => Try.pinned.checked.prog.readableRec t && decide (t < Try.pinned.checked.prog.types.size))) = true := by kernel_rfl
theorem partyBuilt_k20 : (Rows.partyBuiltRow.ifacesOut == Try.f7.resultTypes.toList.any (Try.pinned.checked.prog.ifacesRec ·)) = true := by kernel_rfl
theorem partyBuilt_k21 : (Rows.partyBuiltRow.loopsOut == Try.f7.resultTypes.toList.any (Try.pinned.checked.prog.loopsFrom ·)) = true := by kernel_rfl
theorem partyBuilt_k22 : (Rows.partyBuiltRow.plainKeys == Try.pinned.checked.prog.plainKeys) = true := by kernel_rfl
theorem partyBuilt_k23 : (Rows.partyBuiltRow.shortTexts.isNone) = true := by kernel_rfl
theorem partyBuilt_k24 : (Try.pinned.checked.prog.stopsHeard) = true := by kernel_rfl
theorem partyBuilt_k25 : (Try.pinned.checked.prog.mayEnter) = true := by kernel_rfl
theorem partyBuilt_k26 : (Rows.partyBuiltRow.lifted == Try.pinned.checked.prog.liftsFinal) = true := by kernel_rfl
theorem partyBuilt_k27 : (Try.pinned.checked.prog.make == some Rows.partyBuiltRow.make) = true := by kernel_rfl
theorem partyBuilt_k28 : (Rows.partyBuiltRow.kinds == (if Rows.partyBuiltRow.domain.isEmpty then [] else Try.f7.params.toList.map fun t => match Try.pinned.checked.prog.underlying t with | some (.int k) => some k | _ => none)) = true := by kernel_rfl
theorem partyBuilt_k29 : (Rows.partyBuiltRow.pinned == Rows.partyBuiltRow.pinnedBy) = true := by kernel_rfl
theorem partyBuilt_k30 : (Rows.partyBuiltRow.veiled == (Try.f7.params.toList ++ Rows.partyBuiltSpec.plain.varTypes Try.pinned.checked.prog ++ Try.f7.resultTypes.toList).any (Try.pinned.checked.prog.veiledRec ·)) = true := by kernel_rfl
theorem partyBuilt_k31 : (Rows.partyBuiltRow.veiledFits Try.pinned.checked.prog Try.f7.params.toList (Try.f7.params.toList ++ Rows.partyBuiltSpec.plain.varTypes Try.pinned.checked.prog ++ Try.f7.resultTypes.toList)) = true := by kernel_rfl
set_option maxRecDepth 100000 in
theorem partyBuilt_closed : joinedFacts Try.pinned.checked.prog 7 Try.f7 Rows.partyBuiltSpec Rows.partyBuiltRow = true := by
  simp only [joinedFacts, Bool.and_eq_true]
  exact ⟨⟨⟨⟨⟨⟨⟨⟨⟨⟨⟨⟨⟨⟨⟨⟨⟨⟨⟨⟨⟨⟨⟨⟨⟨⟨⟨⟨⟨⟨⟨partyBuilt_k0, partyBuilt_k1⟩, partyBuilt_k2⟩, partyBuilt_k3⟩, partyBuilt_k4⟩, partyBuilt_k5⟩, partyBuilt_k6⟩, partyBuilt_k7⟩, partyBuilt_k8⟩, partyBuilt_k9⟩, partyBuilt_k10⟩, partyBuilt_k11⟩, partyBuilt_k12⟩, partyBuilt_k13⟩, partyBuilt_k14⟩, partyBuilt_k15⟩, partyBuilt_k16⟩, partyBuilt_k17⟩, partyBuilt_k18⟩, partyBuilt_k19⟩, partyBuilt_k20⟩, partyBuilt_k21⟩, partyBuilt_k22⟩, partyBuilt_k23⟩, partyBuilt_k24⟩, partyBuilt_k25⟩, partyBuilt_k26⟩, partyBuilt_k27⟩, partyBuilt_k28⟩, partyBuilt_k29⟩, partyBuilt_k30⟩, partyBuilt_k31⟩

theorem partyBuilt_holds : Rows.PartyBuiltSaid :=
  OpenClaim.holds_of_wide 7 Try.f7 rfl rfl rfl rfl rfl rfl rfl ⟨rfl, rfl, rfl, rfl, rfl⟩ rfl rfl rfl rfl rfl (by kernel_rfl) Try.func7 partyBuilt_closed
    (of_decide_eq_true (by kernel_rfl)) (by unfold Func.isWrapper; first | (rw [if_pos (by decide +kernel)]; kernel_rfl) | (rw [if_neg (by decide +kernel)]; exact ⟨rfl, rfl⟩))
    (fun os started H enc _ => partyBuilt_lifted os started H enc)

end Go.Proofs.Ytgdpcpbmjgaliaa
