/-
  PartyChain: for every input the law returns true: control is transitive between different parties. No condition.
-/
import Derived.Test.YtgdpcpbmjgaliaaPL9
import Derived.Test.YtgdpcpbmjgaliaaFrameB
namespace Go.Proofs.Ytgdpcpbmjgaliaa
open Go.RowKit Nd
open Go.ChangeShapes Go.WideShapes Go.ChangeAt
open Go.ChangeMaps (open_string shut_string)

set_option maxRecDepth 100000 in
theorem partyChain_lifted (os : Os) (started : os.Started) (H : Type) (enc : TypeId × Value → H) :
    ReturnsInHanded {} Try.checked os 10 .any (Rows.partyChainSpec.pre6 enc Try.prog Try.f10 [] false) (Rows.partyChainSpec.post enc Try.prog Try.f10 false true false false) := by
  refine returnsInHanded_of_change (C := Try.checked) own started (by kernel_rfl) Try.func10
    (ChangeSpec.witness6 (enc := enc) (C := Try.checked) false ⟨#[], #[.int .u8 0, .int .u16 0, .slice none 0 0], []⟩ 8 (by kernel_rfl) (by kernel_rfl) (by kernel_rfl) (by kernel_rfl)) ?_
  intro W base args ds gs before hval0 hW _ _
  have hval : ∀ (j : Nat) t v, Try.f10.params[j]? = some t → args[j]? = some v → Value.okWide Try.prog W .any base t v := hval0
  have hW' := hW
  obtain ⟨p, q, hA0, hV, rfl, _, _⟩ := hW
  have hA : DataW.TrodAll enc Try.prog W 0 (fun _ => true) true Try.f10.params.toList args.toList ds p := hA0
  rw [Try.params10] at hA hval
  obtain ⟨v0, v1, v2, d0, d1, d2, p0, p1, p2, rfl, rfl, rfl, h0, h1, h2⟩ := trodAll_three hA
  obtain ⟨rfl, rfl⟩ := trodVars_none hV
  obtain ⟨a0, rfl, rfl, rfl, b0⟩ := open_int Try.underlying5 (hval 0 5 v0 rfl rfl) h0
  obtain ⟨a1, rfl, rfl, rfl, b1⟩ := open_int Try.underlying50 (hval 1 50 v1 rfl rfl) h1
  obtain ⟨A2, cap2, a2, rfl, b2, c2, e2, g2⟩ := open_t3s (hval 2 51 v2 rfl rfl) h2
  simp only [List.append_nil] at hW'
  refine (lpchain_any a0 a1 a2 _ A2 cap2 W (rngU8 b0) (rngU16 b1) rfl (Nat.le_trans b2 c2) g2 e2).mono fun e W' ⟨he, hch⟩ => ?_
  subst he
  exact ⟨_, rfl, _, _, _, [], _, [], hW', trodAll_mk1 (shut_bool Try.underlying4 _), args_again (by rw [Try.params10]; exact of_decide_eq_true (by kernel_rfl)) hA0 hch.below, rfl, hch.below.frame _, fun h => by cases h⟩

theorem partyChain_k0 : (Rows.partyChainRow.wf (OpenSpec.ofChange Rows.partyChainSpec)) = true := by kernel_rfl
theorem partyChain_k1 : (laidOutB Try.pinned.checked.prog) = true := by kernel_rfl
theorem partyChain_k2 : (mapsRowed Try.pinned.checked.prog) = true := by kernel_rfl
theorem partyChain_k3 : (Try.f10.params.all (Try.pinned.checked.prog.readableRec ·)) = true := by kernel_rfl
theorem partyChain_k4 : (namedTie Try.pinned.checked.prog Rows.partyChainRow.named Rows.partyChainSpec.vars) = true := by kernel_rfl
theorem partyChain_k5 : (Rows.partyChainRow.stops == []) = true := by kernel_rfl
theorem partyChain_k6 : (Try.pinned.checked.prog.stops == []) = true := by kernel_rfl
theorem partyChain_k7 : (Rows.partyChainRow.knobs == []) = true := by kernel_rfl
theorem partyChain_k8 : (Try.pinned.checked.prog.stopKnobs == []) = true := by kernel_rfl
theorem partyChain_k9 : (Rows.partyChainRow.inPlace == Try.pinned.checked.prog.inPlace 10) = true := by kernel_rfl
theorem partyChain_k10 : (Rows.partyChainRow.unfollowed == Try.pinned.checked.prog.unfollowed 10) = true := by kernel_rfl
theorem partyChain_k11 : (Rows.partyChainRow.recurses == Try.pinned.checked.prog.recurses 10) = true := by kernel_rfl
theorem partyChain_k12 : (Rows.partyChainRow.named == Try.pinned.checked.prog.varsNamed 10) = true := by kernel_rfl
theorem partyChain_k13 : (Rows.partyChainRow.maps == (Try.f10.params.toList ++ Rows.partyChainSpec.plain.varTypes Try.pinned.checked.prog).any (Try.pinned.checked.prog.mapsRec ·)) = true := by kernel_rfl
theorem partyChain_k14 : (Rows.partyChainRow.ifaces == (Try.f10.params.toList ++ Rows.partyChainSpec.plain.varTypes Try.pinned.checked.prog).any (Try.pinned.checked.prog.ifacesRec ·)) = true := by kernel_rfl
theorem partyChain_k15 : (Rows.partyChainRow.mapsOut == Try.pinned.checked.prog.mapsAmong Try.f10.resultTypes.toList) = true := by kernel_rfl
theorem partyChain_k16 : (Rows.partyChainRow.loops == (Try.f10.params.toList ++ Rows.partyChainSpec.plain.varTypes Try.pinned.checked.prog).any (Try.pinned.checked.prog.loopsFrom ·)) = true := by kernel_rfl
theorem partyChain_k17 : (Rows.partyChainRow.wideKeys == (Try.f10.params.toList ++ Rows.partyChainSpec.plain.varTypes Try.pinned.checked.prog ++ Try.f10.resultTypes.toList).any (Try.pinned.checked.prog.wideKeysFrom ·)) = true := by kernel_rfl
theorem partyChain_k18 : (Rows.partyChainSpec.vars.all (Try.pinned.checked.prog.varReadable ·)) = true := by kernel_rfl
theorem partyChain_k19 : (Try.f10.resultTypes.all (fun t => Try.pinned.checked.prog.readableRec t && decide (t < Try.pinned.checked.prog.types.size))) = true := by kernel_rfl
theorem partyChain_k20 : (Rows.partyChainRow.ifacesOut == Try.f10.resultTypes.toList.any (Try.pinned.checked.prog.ifacesRec ·)) = true := by kernel_rfl
theorem partyChain_k21 : (Rows.partyChainRow.loopsOut == Try.f10.resultTypes.toList.any (Try.pinned.checked.prog.loopsFrom ·)) = true := by kernel_rfl
theorem partyChain_k22 : (Rows.partyChainRow.plainKeys == Try.pinned.checked.prog.plainKeys) = true := by kernel_rfl
theorem partyChain_k23 : (Rows.partyChainRow.shortTexts.isNone) = true := by kernel_rfl
theorem partyChain_k24 : (Try.pinned.checked.prog.stopsHeard) = true := by kernel_rfl
theorem partyChain_k25 : (Try.pinned.checked.prog.mayEnter) = true := by kernel_rfl
theorem partyChain_k26 : (Rows.partyChainRow.lifted == Try.pinned.checked.prog.liftsFinal) = true := by kernel_rfl
theorem partyChain_k27 : (Try.pinned.checked.prog.make == some Rows.partyChainRow.make) = true := by kernel_rfl
theorem partyChain_k28 : (Rows.partyChainRow.kinds == (if Rows.partyChainRow.domain.isEmpty then [] else Try.f10.params.toList.map fun t => match Try.pinned.checked.prog.underlying t with | some (.int k) => some k | _ => none)) = true := by kernel_rfl
theorem partyChain_k29 : (Rows.partyChainRow.pinned == Rows.partyChainRow.pinnedBy) = true := by kernel_rfl
theorem partyChain_k30 : (Rows.partyChainRow.veiled == (Try.f10.params.toList ++ Rows.partyChainSpec.plain.varTypes Try.pinned.checked.prog ++ Try.f10.resultTypes.toList).any (Try.pinned.checked.prog.veiledRec ·)) = true := by kernel_rfl
theorem partyChain_k31 : (Rows.partyChainRow.veiledFits Try.pinned.checked.prog Try.f10.params.toList (Try.f10.params.toList ++ Rows.partyChainSpec.plain.varTypes Try.pinned.checked.prog ++ Try.f10.resultTypes.toList)) = true := by kernel_rfl
set_option maxRecDepth 100000 in
theorem partyChain_closed : joinedFacts Try.pinned.checked.prog 10 Try.f10 Rows.partyChainSpec Rows.partyChainRow = true := by
  simp only [joinedFacts, Bool.and_eq_true]
  exact ⟨⟨⟨⟨⟨⟨⟨⟨⟨⟨⟨⟨⟨⟨⟨⟨⟨⟨⟨⟨⟨⟨⟨⟨⟨⟨⟨⟨⟨⟨⟨partyChain_k0, partyChain_k1⟩, partyChain_k2⟩, partyChain_k3⟩, partyChain_k4⟩, partyChain_k5⟩, partyChain_k6⟩, partyChain_k7⟩, partyChain_k8⟩, partyChain_k9⟩, partyChain_k10⟩, partyChain_k11⟩, partyChain_k12⟩, partyChain_k13⟩, partyChain_k14⟩, partyChain_k15⟩, partyChain_k16⟩, partyChain_k17⟩, partyChain_k18⟩, partyChain_k19⟩, partyChain_k20⟩, partyChain_k21⟩, partyChain_k22⟩, partyChain_k23⟩, partyChain_k24⟩, partyChain_k25⟩, partyChain_k26⟩, partyChain_k27⟩, partyChain_k28⟩, partyChain_k29⟩, partyChain_k30⟩, partyChain_k31⟩

theorem partyChain_holds : Rows.PartyChainSaid :=
  OpenClaim.holds_of_wide 10 Try.f10 rfl rfl rfl rfl rfl rfl rfl ⟨rfl, rfl, rfl, rfl, rfl⟩ rfl rfl rfl rfl rfl (by kernel_rfl) Try.func10 partyChain_closed
    (of_decide_eq_true (by kernel_rfl)) (by unfold Func.isWrapper; first | (rw [if_pos (by decide +kernel)]; kernel_rfl) | (rw [if_neg (by decide +kernel)]; exact ⟨rfl, rfl⟩))
    (fun os started H enc _ => partyChain_lifted os started H enc)

end Go.Proofs.Ytgdpcpbmjgaliaa
