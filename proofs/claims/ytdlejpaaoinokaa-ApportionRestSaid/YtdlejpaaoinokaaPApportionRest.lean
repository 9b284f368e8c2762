/-
  ApportionRest: for every input the law returns true: exactly the shares with the greatest fractional parts are rounded up. No condition.
-/
import Derived.Test.YtdlejpaaoinokaaAL7
import Derived.Test.YtdlejpaaoinokaaFrameA
namespace Go.Proofs.Ytdlejpaaoinokaa
open Go.RowKit Nd
open Go.ChangeShapes Go.WideShapes Go.ChangeAt
open Go.ChangeMaps (open_string shut_string)

set_option maxRecDepth 100000 in
theorem apportionRest_lifted (os : Os) (started : os.Started) (H : Type) (enc : TypeId × Value → H) :
    ReturnsInHanded {} Try.checked os 6 .any (Rows.apportionRestSpec.pre6 enc Try.prog Try.f6 [] false) (Rows.apportionRestSpec.post enc Try.prog Try.f6 false true false false) := by
  refine returnsInHanded_of_change (C := Try.checked) own started (by kernel_rfl) Try.func6
    (ChangeSpec.witness6 (enc := enc) (C := Try.checked) false ⟨#[], #[.slice none 0 0], []⟩ 8 (by kernel_rfl) (by kernel_rfl) (by kernel_rfl) (by kernel_rfl)) ?_
  intro W base args ds gs before hval0 hW _ _
  have hval : ∀ (j : Nat) t v, Try.f6.params[j]? = some t → args[j]? = some v → Value.okWide Try.prog W .any base t v := hval0
  have hW' := hW
  obtain ⟨p, q, hA0, hV, rfl, _, _⟩ := hW
  have hA : DataW.TrodAll enc Try.prog W 0 (fun _ => true) true Try.f6.params.toList args.toList ds p := hA0
  rw [Try.params6] at hA hval
  obtain ⟨v0, d0, rfl, rfl, h0⟩ := trodAll_one hA
  obtain ⟨rfl, rfl⟩ := trodVars_none hV
  obtain ⟨A0, cap0, a0, rfl, b0, c0, e0⟩ := open_ws (hval 0 41 v0 rfl rfl) h0
  simp only [List.append_nil] at hW'
  refine (larest_any a0 _ A0 cap0 W rfl b0 c0 e0).mono fun e W' ⟨he, hch⟩ => ?_
  subst he
  exact ⟨_, rfl, _, _, _, [], _, [], hW', trodAll_mk1 (shut_bool Try.underlying4 _), args_again (by rw [Try.params6]; exact of_decide_eq_true (by kernel_rfl)) hA0 hch.below, rfl, hch.below.frame _, fun h => by cases h⟩

theorem apportionRest_k0 : (Rows.apportionRestRow.wf (OpenSpec.ofChange Rows.apportionRestSpec)) = true := by kernel_rfl
theorem apportionRest_k1 : (laidOutB Try.pinned.checked.prog) = true := by kernel_rfl
theorem apportionRest_k2 : (mapsRowed Try.pinned.checked.prog) = true := by kernel_rfl
theorem apportionRest_k3 : (Try.f6.params.all (Try.pinned.checked.prog.readableRec ·)) = true := by kernel_rfl
theorem apportionRest_k4 : (namedTie Try.pinned.checked.prog Rows.apportionRestRow.named Rows.apportionRestSpec.vars) = true := by kernel_rfl
theorem apportionRest_k5 : (Rows.apportionRestRow.stops == []) = true := by kernel_rfl
theorem apportionRest_k6 : (Try.pinned.checked.prog.stops == []) = true := by kernel_rfl
theorem apportionRest_k7 : (Rows.apportionRestRow.knobs == []) = true := by kernel_rfl
theorem apportionRest_k8 : (Try.pinned.checked.prog.stopKnobs == []) = true := by kernel_rfl
theorem apportionRest_k9 : (Rows.apportionRestRow.inPlace == Try.pinned.checked.prog.inPlace 6) = true := by kernel_rfl
theorem apportionRest_k10 : (Rows.apportionRestRow.unfollowed == Try.pinned.checked.prog.unfollowed 6) = true := by kernel_rfl
theorem apportionRest_k11 : (Rows.apportionRestRow.recurses == Try.pinned.checked.prog.recurses 6) = true := by kernel_rfl
theorem apportionRest_k12 : (Rows.apportionRestRow.named == Try.pinned.checked.prog.varsNamed 6) = true := by kernel_rfl
theorem apportionRest_k13 : (Rows.apportionRestRow.maps == (Try.f6.params.toList ++ Rows.apportionRestSpec.plain.varTypes Try.pinned.checked.prog).any (Try.pinned.checked.prog.mapsRec ·)) = true := by kernel_rfl
theorem apportionRest_k14 : (Rows.apportionRestRow.ifaces == (Try.f6.params.toList ++ Rows.apportionRestSpec.plain.varTypes Try.pinned.checked.prog).any (Try.pinned.checked.prog.ifacesRec ·)) = true := by kernel_rfl
theorem apportionRest_k15 : (Rows.apportionRestRow.mapsOut == Try.pinned.checked.prog.mapsAmong Try.f6.resultTypes.toList) = true := by kernel_rfl
theorem apportionRest_k16 : (Rows.apportionRestRow.loops == (Try.f6.params.toList ++ Rows.apportionRestSpec.plain.varTypes Try.pinned.checked.prog).any (Try.pinned.checked.prog.loopsFrom ·)) = true := by kernel_rfl
theorem apportionRest_k17 : (Rows.apportionRestRow.wideKeys == (Try.f6.params.toList ++ Rows.apportionRestSpec.plain.varTypes Try.pinned.checked.prog ++ Try.f6.resultTypes.toList).any (Try.pinned.checked.prog.wideKeysFrom ·)) = true := by kernel_rfl
theorem apportionRest_k18 : (Rows.apportionRestSpec.vars.all (Try.pinned.checked.prog.varReadable ·)) = true := by kernel_rfl
theorem apportionRest_k19 : (Try.f6.resultTypes.all (fun t => Try.pinned.checked.prog.readableRec t && decide (t < Try.pinned.checked.prog.types.size))) = true := by kernel_rfl
theorem apportionRest_k20 : (Rows.apportionRestRow.ifacesOut == Try.f6.resultTypes.toList.any (Try.pinned.checked.prog.ifacesRec ·)) = true := by kernel_rfl
theorem apportionRest_k21 : (Rows.apportionRestRow.loopsOut == Try.f6.resultTypes.toList.any (Try.pinned.checked.prog.loopsFrom ·)) = true := by kernel_rfl
theorem apportionRest_k22 : (Rows.apportionRestRow.plainKeys == Try.pinned.checked.prog.plainKeys) = true := by kernel_rfl
theorem apportionRest_k23 : (Rows.apportionRestRow.shortTexts.isNone) = true := by kernel_rfl
theorem apportionRest_k24 : (Try.pinned.checked.prog.stopsHeard) = true := by kernel_rfl
theorem apportionRest_k25 : (Try.pinned.checked.prog.mayEnter) = true := by kernel_rfl
theorem apportionRest_k26 : (Rows.apportionRestRow.lifted == Try.pinned.checked.prog.liftsFinal) = true := by kernel_rfl
theorem apportionRest_k27 : (Try.pinned.checked.prog.make == some Rows.apportionRestRow.make) = true := by kernel_rfl
theorem apportionRest_k28 : (Rows.apportionRestRow.kinds == (if Rows.apportionRestRow.domain.isEmpty then [] else Try.f6.params.toList.map fun t => match Try.pinned.checked.prog.underlying t with | some (.int k) => some k | _ => none)) = true := by kernel_rfl
theorem apportionRest_k29 : (Rows.apportionRestRow.pinned == Rows.apportionRestRow.pinnedBy) = true := by kernel_rfl
theorem apportionRest_k30 : (Rows.apportionRestRow.veiled == (Try.f6.params.toList ++ Rows.apportionRestSpec.plain.varTypes Try.pinned.checked.prog ++ Try.f6.resultTypes.toList).any (Try.pinned.checked.prog.veiledRec ·)) = true := by kernel_rfl
theorem apportionRest_k31 : (Rows.apportionRestRow.veiledFits Try.pinned.checked.prog Try.f6.params.toList (Try.f6.params.toList ++ Rows.apportionRestSpec.plain.varTypes Try.pinned.checked.prog ++ Try.f6.resultTypes.toList)) = true := by kernel_rfl
set_option maxRecDepth 100000 in
theorem apportionRest_closed : joinedFacts Try.pinned.checked.prog 6 Try.f6 Rows.apportionRestSpec Rows.apportionRestRow = true := by
  simp only [joinedFacts, Bool.and_eq_true]
  exact ⟨⟨⟨⟨⟨⟨⟨⟨⟨⟨⟨⟨⟨⟨⟨⟨⟨⟨⟨⟨⟨⟨⟨⟨⟨⟨⟨⟨⟨⟨⟨apportionRest_k0, apportionRest_k1⟩, apportionRest_k2⟩, apportionRest_k3⟩, apportionRest_k4⟩, apportionRest_k5⟩, apportionRest_k6⟩, apportionRest_k7⟩, apportionRest_k8⟩, apportionRest_k9⟩, apportionRest_k10⟩, apportionRest_k11⟩, apportionRest_k12⟩, apportionRest_k13⟩, apportionRest_k14⟩, apportionRest_k15⟩, apportionRest_k16⟩, apportionRest_k17⟩, apportionRest_k18⟩, apportionRest_k19⟩, apportionRest_k20⟩, apportionRest_k21⟩, apportionRest_k22⟩, apportionRest_k23⟩, apportionRest_k24⟩, apportionRest_k25⟩, apportionRest_k26⟩, apportionRest_k27⟩, apportionRest_k28⟩, apportionRest_k29⟩, apportionRest_k30⟩, apportionRest_k31⟩

theorem apportionRest_holds : Rows.ApportionRestSaid :=
  OpenClaim.holds_of_wide 6 Try.f6 rfl rfl rfl rfl rfl rfl rfl ⟨rfl, rfl, rfl, rfl, rfl⟩ rfl rfl rfl rfl rfl (by kernel_rfl) Try.func6 apportionRest_closed
    (of_decide_eq_true (by kernel_rfl)) (by unfold Func.isWrapper; first | (rw [if_pos (by decide +kernel)]; kernel_rfl) | (rw [if_neg (by decide +kernel)]; exact ⟨rfl, rfl⟩))
    (fun os started H enc _ => apportionRest_lifted os started H enc)

end Go.Proofs.Ytdlejpaaoinokaa
