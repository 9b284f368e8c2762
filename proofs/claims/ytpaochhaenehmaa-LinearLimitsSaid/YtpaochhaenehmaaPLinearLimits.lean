/-
  LinearLimits: for every input the law returns true: which dimensions are accepted. No condition.
-/
import Derived.Test.YtpaochhaenehmaaLA26
import Derived.Test.YtpaochhaenehmaaFrameW
namespace Go.Proofs.Ytpaochhaenehmaa
open Go.RowKit Nd
open Go.ChangeShapes Go.WideShapes Go.ChangeAt
open Go.ChangeMaps (open_string shut_string)

set_option maxRecDepth 100000 in
theorem linearLimits_lifted (os : Os) (started : os.Started) (H : Type) (enc : TypeId × Value → H) :
    ReturnsInHanded {} Try.checked os 4 .any (Rows.linearLimitsSpec.pre6 enc Try.prog Try.f4 [] false) (Rows.linearLimitsSpec.post enc Try.prog Try.f4 false true false false) := by
  refine returnsInHanded_of_change (C := Try.checked) own started (by kernel_rfl) Try.func4
    (ChangeSpec.witness6 (enc := enc) (C := Try.checked) false ⟨#[], #[.int .u8 0, .int .u8 0], []⟩ 8 (by kernel_rfl) (by kernel_rfl) (by kernel_rfl) (by kernel_rfl)) ?_
  intro W base args ds gs before hval0 hW _ _
  have hval : ∀ (j : Nat) t v, Try.f4.params[j]? = some t → args[j]? = some v → Value.okWide Try.prog W .any base t v := hval0
  have hW' := hW
  obtain ⟨p, q, hA0, hV, rfl, _, _⟩ := hW
  have hA : DataW.TrodAll enc Try.prog W 0 (fun _ => true) true Try.f4.params.toList args.toList ds p := hA0
  rw [Try.params4] at hA hval
  obtain ⟨v0, v1, d0, d1, p0, p1, rfl, rfl, rfl, h0, h1⟩ := trodAll_two hA
  obtain ⟨rfl, rfl⟩ := trodVars_none hV
  obtain ⟨a0, rfl, rfl, rfl, b0⟩ := open_int Try.underlying5 (hval 0 5 v0 rfl rfl) h0
  obtain ⟨a1, rfl, rfl, rfl, b1⟩ := open_int Try.underlying5 (hval 1 5 v1 rfl rfl) h1
  simp only [List.append_nil] at hW'
  refine (llimits_any a0 a1 W (rngU8 b0) (rngU8 b1)).mono fun e W' ⟨he, hch⟩ => ?_
  subst he
  exact ⟨_, rfl, _, _, _, [], [], [], hW', trodAll_mk1 (shut_bool Try.underlying4 _), trodAll_mk2 (shut_int Try.underlying5 b0) (shut_int Try.underlying5 b1), rfl, hch.below.frame _, fun h => by cases h⟩

theorem linearLimits_k0 : (Rows.linearLimitsRow.wf (OpenSpec.ofChange Rows.linearLimitsSpec)) = true := by kernel_rfl
theorem linearLimits_k1 : (laidOutB Try.pinned.checked.prog) = true := by kernel_rfl
theorem linearLimits_k2 : (mapsRowed Try.pinned.checked.prog) = true := by kernel_rfl
theorem linearLimits_k3 : (Try.f4.params.all (Try.pinned.checked.prog.readableRec ·)) = true := by kernel_rfl
theorem linearLimits_k4 : (namedTie Try.pinned.checked.prog Rows.linearLimitsRow.named Rows.linearLimitsSpec.vars) = true := by kernel_rfl
theorem linearLimits_k5 : (Rows.linearLimitsRow.stops == []) = true := by kernel_rfl
theorem linearLimits_k6 : (Try.pinned.checked.prog.stops == []) = true := by kernel_rfl
theorem linearLimits_k7 : (Rows.linearLimitsRow.knobs == []) = true := by kernel_rfl
theorem linearLimits_k8 : (Try.pinned.checked.prog.stopKnobs == []) = true := by kernel_rfl
theorem linearLimits_k9 : (Rows.linearLimitsRow.inPlace == Try.pinned.checked.prog.inPlace 4) = true := by kernel_rfl
theorem linearLimits_k10 : (Rows.linearLimitsRow.unfollowed == Try.pinned.checked.prog.unfollowed 4) = true := by kernel_rfl
theorem linearLimits_k11 : (Rows.linearLimitsRow.recurses == Try.pinned.checked.prog.recurses 4) = true := by kernel_rfl
theorem linearLimits_k12 : (Rows.linearLimitsRow.named == Try.pinned.checked.prog.varsNamed 4) = true := by kernel_rfl
theorem linearLimits_k13 : (Rows.linearLimitsRow.maps == (Try.f4.params.toList ++ Rows.linearLimitsSpec.plain.varTypes Try.pinned.checked.prog).any (Try.pinned.checked.prog.mapsRec ·)) = true := by kernel_rfl
theorem linearLimits_k14 : (Rows.linearLimitsRow.ifaces == (Try.f4.params.toList ++ Rows.linearLimitsSpec.plain.varTypes Try.pinned.checked.prog).any (Try.pinned.checked.prog.ifacesRec ·)) = true := by kernel_rfl
theorem linearLimits_k15 : (Rows.linearLimitsRow.mapsOut == Try.pinned.checked.prog.mapsAmong Try.f4.resultTypes.toList) = true := by kernel_rfl
theorem linearLimits_k16 : (Rows.linearLimitsRow.loops == (Try.f4.params.toList ++ Rows.linearLimitsSpec.plain.varTypes Try.pinned.checked.prog).any (Try.pinned.checked.prog.loopsFrom ·)) = true := by kernel_rfl
theorem linearLimits_k17 : (Rows.linearLimitsRow.wideKeys == (Try.f4.params.toList ++ Rows.linearLimitsSpec.plain.varTypes Try.pinned.checked.prog ++ Try.f4.resultTypes.toList).any (Try.pinned.checked.prog.wideKeysFrom ·)) = true := by kernel_rfl
theorem linearLimits_k18 : (Rows.linearLimitsSpec.vars.all (Try.pinned.checked.prog.varReadable ·)) = true := by kernel_rfl
theorem linearLimits_k19 : (Try.f4.resultTypes.all (fun t => Try.pinned.checked.prog.readableRec t && decide (t < Try.pinned.checked.prog.types.size))) = true := by kernel_rfl
theorem linearLimits_k20 : (Rows.linearLimitsRow.ifacesOut == Try.f4.resultTypes.toList.any (Try.pinned.checked.prog.ifacesRec ·)) = true := by kernel_rfl
theorem linearLimits_k21 : (Rows.linearLimitsRow.loopsOut == Try.f4.resultTypes.toList.any (Try.pinned.checked.prog.loopsFrom ·)) = true := by kernel_rfl
theorem linearLimits_k22 : (Rows.linearLimitsRow.plainKeys == Try.pinned.checked.prog.plainKeys) = true := by kernel_rfl
theorem linearLimits_k23 : (Rows.linearLimitsRow.shortTexts.isNone) = true := by kernel_rfl
theorem linearLimits_k24 : (Try.pinned.checked.prog.stopsHeard) = true := by kernel_rfl
theorem linearLimits_k25 : (Try.pinned.checked.prog.mayEnter) = true := by kernel_rfl
theorem linearLimits_k26 : (Rows.linearLimitsRow.lifted == Try.pinned.checked.prog.liftsFinal) = true := by kernel_rfl
theorem linearLimits_k27 : (Try.pinned.checked.prog.make == some Rows.linearLimitsRow.make) = true := by kernel_rfl
theorem linearLimits_k28 : (Rows.linearLimitsRow.kinds == (if Rows.linearLimitsRow.domain.isEmpty then [] else Try.f4.params.toList.map fun t => match Try.pinned.checked.prog.underlying t with | some (.int k) => some k | _ => none)) = true := by kernel_rfl
theorem linearLimits_k29 : (Rows.linearLimitsRow.pinned == Rows.linearLimitsRow.pinnedBy) = true := by kernel_rfl
theorem linearLimits_k30 : (Rows.linearLimitsRow.veiled == (Try.f4.params.toList ++ Rows.linearLimitsSpec.plain.varTypes Try.pinned.checked.prog ++ Try.f4.resultTypes.toList).any (Try.pinned.checked.prog.veiledRec ·)) = true := by kernel_rfl
theorem linearLimits_k31 : (Rows.linearLimitsRow.veiledFits Try.pinned.checked.prog Try.f4.params.toList (Try.f4.params.toList ++ Rows.linearLimitsSpec.plain.varTypes Try.pinned.checked.prog ++ Try.f4.resultTypes.toList)) = true := by kernel_rfl
set_option maxRecDepth 100000 in
theorem linearLimits_closed : joinedFacts Try.pinned.checked.prog 4 Try.f4 Rows.linearLimitsSpec Rows.linearLimitsRow = true := by
  simp only [joinedFacts, Bool.and_eq_true]
  exact ⟨⟨⟨⟨⟨⟨⟨⟨⟨⟨⟨⟨⟨⟨⟨⟨⟨⟨⟨⟨⟨⟨⟨⟨⟨⟨⟨⟨⟨⟨⟨linearLimits_k0, linearLimits_k1⟩, linearLimits_k2⟩, linearLimits_k3⟩, linearLimits_k4⟩, linearLimits_k5⟩, linearLimits_k6⟩, linearLimits_k7⟩, linearLimits_k8⟩, linearLimits_k9⟩, linearLimits_k10⟩, linearLimits_k11⟩, linearLimits_k12⟩, linearLimits_k13⟩, linearLimits_k14⟩, linearLimits_k15⟩, linearLimits_k16⟩, linearLimits_k17⟩, linearLimits_k18⟩, linearLimits_k19⟩, linearLimits_k20⟩, linearLimits_k21⟩, linearLimits_k22⟩, linearLimits_k23⟩, linearLimits_k24⟩, linearLimits_k25⟩, linearLimits_k26⟩, linearLimits_k27⟩, linearLimits_k28⟩, linearLimits_k29⟩, linearLimits_k30⟩, linearLimits_k31⟩

theorem linearLimits_holds : Rows.LinearLimitsSaid :=
  OpenClaim.holds_of_wide 4 Try.f4 rfl rfl rfl rfl rfl rfl rfl ⟨rfl, rfl, rfl, rfl, rfl⟩ rfl rfl rfl rfl rfl (by kernel_rfl) Try.func4 linearLimits_closed
    (of_decide_eq_true (by kernel_rfl)) (by unfold Func.isWrapper; first | (rw [if_pos (by decide +kernel)]; kernel_rfl) | (rw [if_neg (by decide +kernel)]; exact ⟨rfl, rfl⟩))
    (fun os started H enc _ => linearLimits_lifted os started H enc)

end Go.Proofs.Ytpaochhaenehmaa
