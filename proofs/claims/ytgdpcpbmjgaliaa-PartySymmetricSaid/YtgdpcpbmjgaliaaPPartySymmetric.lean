/-
  PartySymmetric: for every input the law returns true: connection is reflexive and symmetric, and controlled companies, and companies under common control, are connected. No condition.
-/
import Derived.Test.YtgdpcpbmjgaliaaPL10
import Derived.Test.YtgdpcpbmjgaliaaFrameB
namespace Go.Proofs.Ytgdpcpbmjgaliaa
open Go.RowKit Nd
open Go.ChangeShapes Go.WideShapes Go.ChangeAt
open Go.ChangeMaps (open_string shut_string)

set_option maxRecDepth 100000 in
theorem partySymmetric_lifted (os : Os) (started : os.Started) (H : Type) (enc : TypeId × Value → H) :
    ReturnsInHanded {} Try.checked os 11 .any (Rows.partySymmetricSpec.pre6 enc Try.prog Try.f11 [] false) (Rows.partySymmetricSpec.post enc Try.prog Try.f11 false true false false) := by
  refine returnsInHanded_of_change (C := Try.checked) own started (by kernel_rfl) Try.func11
    (ChangeSpec.witness6 (enc := enc) (C := Try.checked) false ⟨#[], #[.int .u8 0, .int .u16 0, .slice none 0 0, .slice none 0 0], []⟩ 8 (by kernel_rfl) (by kernel_rfl) (by kernel_rfl) (by kernel_rfl)) ?_
  intro W base args ds gs before hval0 hW _ _
  have hval : ∀ (j : Nat) t v, Try.f11.params[j]? = some t → args[j]? = some v → Value.okWide Try.prog W .any base t v := hval0
  have hW' := hW
  obtain ⟨p, q, hA0, hV, rfl, _, _⟩ := hW
  have hA : DataW.TrodAll enc Try.prog W 0 (fun _ => true) true Try.f11.params.toList args.toList ds p := hA0
  rw [Try.params11] at hA hval
  obtain ⟨v0, v1, v2, v3, d0, d1, d2, d3, p0, p1, p2, p3, rfl, rfl, rfl, h0, h1, h2, h3⟩ := trodAll_four hA
  obtain ⟨rfl, rfl⟩ := trodVars_none hV
  obtain ⟨a0, rfl, rfl, rfl, b0⟩ := open_int Try.underlying5 (hval 0 5 v0 rfl rfl) h0
  obtain ⟨a1, rfl, rfl, rfl, b1⟩ := open_int Try.underlying50 (hval 1 50 v1 rfl rfl) h1
  obtain ⟨A2, cap2, a2, rfl, b2, c2, e2, g2⟩ := open_t3s (hval 2 51 v2 rfl rfl) h2
  obtain ⟨A3, cap3, a3, rfl, b3, c3, e3, g3⟩ := open_t2s (hval 3 52 v3 rfl rfl) h3
  simp only [List.append_nil] at hW'
  refine (lpsym_any a0 a1 a2 a3 _ _ A2 A3 cap2 cap3 W (rngU8 b0) (rngU16 b1) rfl (Nat.le_trans b2 c2) g2 e2 rfl (Nat.le_trans b3 c3) g3 e3).mono fun e W' ⟨he, hch⟩ => ?_
  subst he
  exact ⟨_, rfl, _, _, _, [], _, [], hW', trodAll_mk1 (shut_bool Try.underlying4 _), args_again (by rw [Try.params11]; exact of_decide_eq_true (by kernel_rfl)) hA0 hch.below, rfl, hch.below.frame _, fun h => by cases h⟩

theorem partySymmetric_k0 : (Rows.partySymmetricRow.wf (OpenSpec.ofChange Rows.partySymmetricSpec)) = true := by kernel_rfl
theorem partySymmetric_k1 : (laidOutB Try.pinned.checked.prog) = true := by kernel_rfl
theorem partySymmetric_k2 : (mapsRowed Try.pinned.checked.prog) = true := by kernel_rfl
theorem partySymmetric_k3 : (Try.f11.params.all (Try.pinned.checked.prog.readableRec ·)) = true := by kernel_rfl
theorem partySymmetric_k4 : (namedTie Try.pinned.checked.prog Rows.partySymmetricRow.named Rows.partySymmetricSpec.vars) = true := by kernel_rfl
theorem partySymmetric_k5 : (Rows.partySymmetricRow.stops == []) = true := by kernel_rfl
theorem partySymmetric_k6 : (Try.pinned.checked.prog.stops == []) = true := by kernel_rfl
theorem partySymmetric_k7 : (Rows.partySymmetricRow.knobs == []) = true := by kernel_rfl
theorem partySymmetric_k8 : (Try.pinned.checked.prog.stopKnobs == []) = true := by kernel_rfl
theorem partySymmetric_k9 : (Rows.partySymmetricRow.inPlace == Try.pinned.checked.prog.inPlace 11) = true := by kernel_rfl
theorem partySymmetric_k10 : (Rows.partySymmetricRow.unfollowed == Try.pinned.checked.prog.unfollowed 11) = true := by kernel_rfl
theorem partySymmetric_k11 : (Rows.partySymmetricRow.recurses == Try.pinned.checked.prog.recurses 11) = true := by kernel_rfl
theorem partySymmetric_k12 : (Rows.partySymmetricRow.named == Try.pinned.checked.prog.varsNamed 11) = true := by kernel_rfl
theorem partySymmetric_k13 : (Rows.partySymmetricRow.maps == (Try.f11.params.toList ++ Rows.partySymmetricSpec.plain.varTypes Try.pinned.checked.prog).any (Try.pinned.checked.prog.mapsRec ·)) = true := by kernel_rfl
theorem partySymmetric_k14 : (Rows.partySymmetricRow.ifaces == (Try.f11.params.toList ++ Rows.partySymmetricSpec.plain.varTypes Try.pinned.checked.prog).any (Try.pinned.checked.prog.ifacesRec ·)) = true := by kernel_rfl
theorem partySymmetric_k15 : (Rows.partySymmetricRow.mapsOut == Try.pinned.checked.prog.mapsAmong Try.f11.resultTypes.toList) = true := by kernel_rfl
theorem partySymmetric_k16 : (Rows.partySymmetricRow.loops == (Try.f11.params.toList ++ Rows.partySymmetricSpec.plain.varTypes Try.pinned.checked.prog).any (Try.pinned.checked.prog.loopsFrom ·)) = true := by kernel_rfl
theorem partySymmetric_k17 : (Rows.partySymmetricRow.wideKeys == (Try.f11.params.toList ++ Rows.partySymmetricSpec.plain.varTypes Try.pinned.checked.prog ++ Try.f11.resultTypes.toList).any (Try.pinned.checked.prog.wideKeysFrom ·)) = true := by kernel_rfl
theorem partySymmetric_k18 : (Rows.partySymmetricSpec.vars.all (Try.pinned.checked.prog.varReadable ·)) = true := by kernel_rfl
theorem partySymmetric_k19 : (Try.f11.resultTypes.all (fun t => Try.pinned.checked.prog.readableRec t && decide (t < Try.pinned.checked.prog.types.size))) = true := by kernel_rfl
theorem partySymmetric_k20 : (Rows.partySymmetricRow.ifacesOut == Try.f11.resultTypes.toList.any (Try.pinned.checked.prog.ifacesRec ·)) = true := by kernel_rfl
theorem partySymmetric_k21 : (Rows.partySymmetricRow.loopsOut == Try.f11.resultTypes.toList.any (Try.pinned.checked.prog.loopsFrom ·)) = true := by kernel_rfl
theorem partySymmetric_k22 : (Rows.partySymmetricRow.plainKeys == Try.pinned.checked.prog.plainKeys) = true := by kernel_rfl
theorem partySymmetric_k23 : (Rows.partySymmetricRow.shortTexts.isNone) = true := by kernel_rfl
theorem partySymmetric_k24 : (Try.pinned.checked.prog.stopsHeard) = true := by kernel_rfl
theorem partySymmetric_k25 : (Try.pinned.checked.prog.mayEnter) = true := by kernel_rfl
theorem partySymmetric_k26 : (Rows.partySymmetricRow.lifted == Try.pinned.checked.prog.liftsFinal) = true := by kernel_rfl
theorem partySymmetric_k27 : (Try.pinned.checked.prog.make == some Rows.partySymmetricRow.make) = true := by kernel_rfl
theorem partySymmetric_k28 : (Rows.partySymmetricRow.kinds == (if Rows.partySymmetricRow.domain.isEmpty then [] else Try.f11.params.toList.map fun t => match Try.pinned.checked.prog.underlying t with | some (.int k) => some k | _ => none)) = true := by kernel_rfl
theorem partySymmetric_k29 : (Rows.partySymmetricRow.pinned == Rows.partySymmetricRow.pinnedBy) = true := by kernel_rfl
theorem partySymmetric_k30 : (Rows.partySymmetricRow.veiled == (Try.f11.params.toList ++ Rows.partySymmetricSpec.plain.varTypes Try.pinned.checked.prog ++ Try.f11.resultTypes.toList).any (Try.pinned.checked.prog.veiledRec ·)) = true := by kernel_rfl
theorem partySymmetric_k31 : (Rows.partySymmetricRow.veiledFits Try.pinned.checked.prog Try.f11.params.toList (Try.f11.params.toList ++ Rows.partySymmetricSpec.plain.varTypes Try.pinned.checked.prog ++ Try.f11.resultTypes.toList)) = true := by kernel_rfl
set_option maxRecDepth 100000 in
theorem partySymmetric_closed : joinedFacts Try.pinned.checked.prog 11 Try.f11 Rows.partySymmetricSpec Rows.partySymmetricRow = true := by
  simp only [joinedFacts, Bool.and_eq_true]
  exact ⟨⟨⟨⟨⟨⟨⟨⟨⟨⟨⟨⟨⟨⟨⟨⟨⟨⟨⟨⟨⟨⟨⟨⟨⟨⟨⟨⟨⟨⟨⟨partySymmetric_k0, partySymmetric_k1⟩, partySymmetric_k2⟩, partySymmetric_k3⟩, partySymmetric_k4⟩, partySymmetric_k5⟩, partySymmetric_k6⟩, partySymmetric_k7⟩, partySymmetric_k8⟩, partySymmetric_k9⟩, partySymmetric_k10⟩, partySymmetric_k11⟩, partySymmetric_k12⟩, partySymmetric_k13⟩, partySymmetric_k14⟩, partySymmetric_k15⟩, partySymmetric_k16⟩, partySymmetric_k17⟩, partySymmetric_k18⟩, partySymmetric_k19⟩, partySymmetric_k20⟩, partySymmetric_k21⟩, partySymmetric_k22⟩, partySymmetric_k23⟩, partySymmetric_k24⟩, partySymmetric_k25⟩, partySymmetric_k26⟩, partySymmetric_k27⟩, partySymmetric_k28⟩, partySymmetric_k29⟩, partySymmetric_k30⟩, partySymmetric_k31⟩

theorem partySymmetric_holds : Rows.PartySymmetricSaid :=
  OpenClaim.holds_of_wide 11 Try.f11 rfl rfl rfl rfl rfl rfl rfl ⟨rfl, rfl, rfl, rfl, rfl⟩ rfl rfl rfl rfl rfl (by kernel_rfl) Try.func11 partySymmetric_closed
    (of_decide_eq_true (by kernel_rfl)) (by unfold Func.isWrapper; first | (rw [if_pos (by decide +kernel)]; kernel_rfl) | (rw [if_neg (by decide +kernel)]; exact ⟨rfl, rfl⟩))
    (fun os started H enc _ => partySymmetric_lifted os started H enc)

end Go.Proofs.Ytgdpcpbmjgaliaa
