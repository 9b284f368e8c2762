/-
  InterestChain: for every input the law returns true: compounding over two adjacent intervals, the first one of whole periods, gives the same as over both. No condition.
-/
import Derived.Test.YtcfejphpflafiaaIA7
import Derived.Test.YtcfejphpflafiaaFrameT
namespace Go.Proofs.Ytcfejphpflafiaa
open Go.RowKit Nd
open Go.ChangeShapes Go.WideShapes Go.ChangeAt
open Go.ChangeMaps (open_string shut_string)

set_option maxRecDepth 100000 in
theorem interestChain_lifted (os : Os) (started : os.Started) (H : Type) (enc : TypeId × Value → H) :
    ReturnsInHanded {} Try.checked os 11 .any (Rows.interestChainSpec.pre6 enc Try.prog Try.f11 [] false) (Rows.interestChainSpec.post enc Try.prog Try.f11 false true false false) := by
  refine returnsInHanded_of_change (C := Try.checked) own started (by kernel_rfl) Try.func11
    (ChangeSpec.witness6 (enc := enc) (C := Try.checked) false ⟨#[], #[.int .u16 0, .slice none 0 0, .int .u8 0, .int .u8 0, .int .u8 0, .int .u8 0], []⟩ 8 (by kernel_rfl) (by kernel_rfl) (by kernel_rfl) (by kernel_rfl)) ?_
  intro W base args ds gs before hval0 hW _ _
  have hval : ∀ (j : Nat) t v, Try.f11.params[j]? = some t → args[j]? = some v → Value.okWide Try.prog W .any base t v := hval0
  have hW' := hW
  obtain ⟨p, q, hA0, hV, rfl, _, _⟩ := hW
  have hA : DataW.TrodAll enc Try.prog W 0 (fun _ => true) true Try.f11.params.toList args.toList ds p := hA0
  rw [Try.params11] at hA hval
  obtain ⟨v0, v1, v2, v3, v4, v5, d0, d1, d2, d3, d4, d5, p0, p1, p2, p3, p4, p5, rfl, rfl, rfl, h0, h1, h2, h3, h4, h5⟩ := trodAll_six hA
  obtain ⟨rfl, rfl⟩ := trodVars_none hV
  obtain ⟨a0, rfl, rfl, rfl, b0⟩ := open_int Try.underlying39 (hval 0 39 v0 rfl rfl) h0
  obtain ⟨A1, cap1, a1, rfl, b1, c1, e1, g1⟩ := open_pairs (hval 1 40 v1 rfl rfl) h1
  obtain ⟨a2, rfl, rfl, rfl, b2⟩ := open_int Try.underlying5 (hval 2 5 v2 rfl rfl) h2
  obtain ⟨a3, rfl, rfl, rfl, b3⟩ := open_int Try.underlying5 (hval 3 5 v3 rfl rfl) h3
  obtain ⟨a4, rfl, rfl, rfl, b4⟩ := open_int Try.underlying5 (hval 4 5 v4 rfl rfl) h4
  obtain ⟨a5, rfl, rfl, rfl, b5⟩ := open_int Try.underlying5 (hval 5 5 v5 rfl rfl) h5
  simp only [List.append_nil] at hW'
  refine (lchain_any a0 a1 a2 a3 a4 a5 _ A1 cap1 W (rngU16 b0) (rngU8 b2) (rngU8 b3) (rngU8 b4) (rngU8 b5) rfl g1 e1).mono fun e W' ⟨he, hch⟩ => ?_
  subst he
  exact ⟨_, rfl, _, _, _, [], _, [], hW', trodAll_mk1 (shut_bool Try.underlying4 _), args_again (by rw [Try.params11]; exact of_decide_eq_true (by kernel_rfl)) hA0 hch.below, rfl, hch.below.frame _, fun h => by cases h⟩

theorem interestChain_k0 : (Rows.interestChainRow.wf (OpenSpec.ofChange Rows.interestChainSpec)) = true := by kernel_rfl
theorem interestChain_k1 : (laidOutB Try.pinned.checked.prog) = true := by kernel_rfl
theorem interestChain_k2 : (mapsRowed Try.pinned.checked.prog) = true := by kernel_rfl
theorem interestChain_k3 : (Try.f11.params.all (Try.pinned.checked.prog.readableRec ·)) = true := by kernel_rfl
theorem interestChain_k4 : (namedTie Try.pinned.checked.prog Rows.interestChainRow.named Rows.interestChainSpec.vars) = true := by kernel_rfl
theorem interestChain_k5 : (Rows.interestChainRow.stops == []) = true := by kernel_rfl
theorem interestChain_k6 : (Try.pinned.checked.prog.stops == []) = true := by kernel_rfl
theorem interestChain_k7 : (Rows.interestChainRow.knobs == []) = true := by kernel_rfl
theorem interestChain_k8 : (Try.pinned.checked.prog.stopKnobs == []) = true := by kernel_rfl
theorem interestChain_k9 : (Rows.interestChainRow.inPlace == Try.pinned.checked.prog.inPlace 11) = true := by kernel_rfl
theorem interestChain_k10 : (Rows.interestChainRow.unfollowed == Try.pinned.checked.prog.unfollowed 11) = true := by kernel_rfl
theorem interestChain_k11 : (Rows.interestChainRow.recurses == Try.pinned.checked.prog.recurses 11) = true := by kernel_rfl
theorem interestChain_k12 : (Rows.interestChainRow.named == Try.pinned.checked.prog.varsNamed 11) = true := by kernel_rfl
theorem interestChain_k13 : (Rows.interestChainRow.maps == (Try.f11.params.toList ++ Rows.interestChainSpec.plain.varTypes Try.pinned.checked.prog).any (Try.pinned.checked.prog.mapsRec ·)) = true := by kernel_rfl
theorem interestChain_k14 : (Rows.interestChainRow.ifaces == (Try.f11.params.toList ++ Rows.interestChainSpec.plain.varTypes Try.pinned.checked.prog).any (Try.pinned.checked.prog.ifacesRec ·)) = true := by kernel_rfl
theorem interestChain_k15 : (Rows.interestChainRow.mapsOut == Try.pinned.checked.prog.mapsAmong Try.f11.resultTypes.toList) = true := by kernel_rfl
theorem interestChain_k16 : (Rows.interestChainRow.loops == (Try.f11.params.toList ++ Rows.interestChainSpec.plain.varTypes Try.pinned.checked.prog).any (Try.pinned.checked.prog.loopsFrom ·)) = true := by kernel_rfl
theorem interestChain_k17 : (Rows.interestChainRow.wideKeys == (Try.f11.params.toList ++ Rows.interestChainSpec.plain.varTypes Try.pinned.checked.prog ++ Try.f11.resultTypes.toList).any (Try.pinned.checked.prog.wideKeysFrom ·)) = true := by kernel_rfl
theorem interestChain_k18 : (Rows.interestChainSpec.vars.all (Try.pinned.checked.prog.varReadable ·)) = true := by kernel_rfl
theorem interestChain_k19 : (Try.f11.resultTypes.all (fun t => Try.pinned.checked.prog.readableRec t && decide (t < Try.pinned.checked.prog.types.size))) = true := by kernel_rfl
theorem interestChain_k20 : (Rows.interestChainRow.ifacesOut == Try.f11.resultTypes.toList.any (Try.pinned.checked.prog.ifacesRec ·)) = true := by kernel_rfl
theorem interestChain_k21 : (Rows.interestChainRow.loopsOut == Try.f11.resultTypes.toList.any (Try.pinned.checked.prog.loopsFrom ·)) = true := by kernel_rfl
theorem interestChain_k22 : (Rows.interestChainRow.plainKeys == Try.pinned.checked.prog.plainKeys) = true := by kernel_rfl
theorem interestChain_k23 : (Rows.interestChainRow.shortTexts.isNone) = true := by kernel_rfl
theorem interestChain_k24 : (Try.pinned.checked.prog.stopsHeard) = true := by kernel_rfl
theorem interestChain_k25 : (Try.pinned.checked.prog.mayEnter) = true := by kernel_rfl
theorem interestChain_k26 : (Rows.interestChainRow.lifted == Try.pinned.checked.prog.liftsFinal) = true := by kernel_rfl
theorem interestChain_k27 : (Try.pinned.checked.prog.make == some Rows.interestChainRow.make) = true := by kernel_rfl
theorem interestChain_k28 : (Rows.interestChainRow.kinds == (if Rows.interestChainRow.domain.isEmpty then [] else Try.f11.params.toList.map fun t => match Try.pinned.checked.prog.underlying t with | some (.int k) => some k | _ => none)) = true := by kernel_rfl
theorem interestChain_k29 : (Rows.interestChainRow.pinned == Rows.interestChainRow.pinnedBy) = true := by kernel_rfl
theorem interestChain_k30 : (Rows.interestChainRow.veiled == (Try.f11.params.toList ++ Rows.interestChainSpec.plain.varTypes Try.pinned.checked.prog ++ Try.f11.resultTypes.toList).any (Try.pinned.checked.prog.veiledRec ·)) = true := by kernel_rfl
theorem interestChain_k31 : (Rows.interestChainRow.veiledFits Try.pinned.checked.prog Try.f11.params.toList (Try.f11.params.toList ++ Rows.interestChainSpec.plain.varTypes Try.pinned.checked.prog ++ Try.f11.resultTypes.toList)) = true := by kernel_rfl
set_option maxRecDepth 100000 in
theorem interestChain_closed : joinedFacts Try.pinned.checked.prog 11 Try.f11 Rows.interestChainSpec Rows.interestChainRow = true := by
  simp only [joinedFacts, Bool.and_eq_true]
  exact ⟨⟨⟨⟨⟨⟨⟨⟨⟨⟨⟨⟨⟨⟨⟨⟨⟨⟨⟨⟨⟨⟨⟨⟨⟨⟨⟨⟨⟨⟨⟨interestChain_k0, interestChain_k1⟩, interestChain_k2⟩, interestChain_k3⟩, interestChain_k4⟩, interestChain_k5⟩, interestChain_k6⟩, interestChain_k7⟩, interestChain_k8⟩, interestChain_k9⟩, interestChain_k10⟩, interestChain_k11⟩, interestChain_k12⟩, interestChain_k13⟩, interestChain_k14⟩, interestChain_k15⟩, interestChain_k16⟩, interestChain_k17⟩, interestChain_k18⟩, interestChain_k19⟩, interestChain_k20⟩, interestChain_k21⟩, interestChain_k22⟩, interestChain_k23⟩, interestChain_k24⟩, interestChain_k25⟩, interestChain_k26⟩, interestChain_k27⟩, interestChain_k28⟩, interestChain_k29⟩, interestChain_k30⟩, interestChain_k31⟩

theorem interestChain_holds : Rows.InterestChainSaid :=
  OpenClaim.holds_of_wide 11 Try.f11 rfl rfl rfl rfl rfl rfl rfl ⟨rfl, rfl, rfl, rfl, rfl⟩ rfl rfl rfl rfl rfl (by kernel_rfl) Try.func11 interestChain_closed
    (of_decide_eq_true (by kernel_rfl)) (by unfold Func.isWrapper; first | (rw [if_pos (by decide +kernel)]; kernel_rfl) | (rw [if_neg (by decide +kernel)]; exact ⟨rfl, rfl⟩))
    (fun os started H enc _ => interestChain_lifted os started H enc)

end Go.Proofs.Ytcfejphpflafiaa
