/-
  InterestAdditive: for every input the law returns true: simple interest is additive over adjacent intervals and proportional to the principal. No condition.
-/
import Derived.Test.YtcfejphpflafiaaIA5
import Derived.Test.YtcfejphpflafiaaFrameT
namespace Go.Proofs.Ytcfejphpflafiaa
open Go.RowKit Nd
open Go.ChangeShapes Go.WideShapes Go.ChangeAt
open Go.ChangeMaps (open_string shut_string)

set_option maxRecDepth 100000 in
theorem interestAdditive_lifted (os : Os) (started : os.Started) (H : Type) (enc : TypeId × Value → H) :
    ReturnsInHanded {} Try.checked os 9 .any (Rows.interestAdditiveSpec.pre6 enc Try.prog Try.f9 [] false) (Rows.interestAdditiveSpec.post enc Try.prog Try.f9 false true false false) := by
  refine returnsInHanded_of_change (C := Try.checked) own started (by kernel_rfl) Try.func9
    (ChangeSpec.witness6 (enc := enc) (C := Try.checked) false ⟨#[], #[.int .u16 0, .int .u16 0, .slice none 0 0, .int .u8 0, .int .u8 0, .int .u8 0], []⟩ 8 (by kernel_rfl) (by kernel_rfl) (by kernel_rfl) (by kernel_rfl)) ?_
  intro W base args ds gs before hval0 hW _ _
  have hval : ∀ (j : Nat) t v, Try.f9.params[j]? = some t → args[j]? = some v → Value.okWide Try.prog W .any base t v := hval0
  have hW' := hW
  obtain ⟨p, q, hA0, hV, rfl, _, _⟩ := hW
  have hA : DataW.TrodAll enc Try.prog W 0 (fun _ => true) true Try.f9.params.toList args.toList ds p := hA0
  rw [Try.params9] at hA hval
  obtain ⟨v0, v1, v2, v3, v4, v5, d0, d1, d2, d3, d4, d5, p0, p1, p2, p3, p4, p5, rfl, rfl, rfl, h0, h1, h2, h3, h4, h5⟩ := trodAll_six hA
  obtain ⟨rfl, rfl⟩ := trodVars_none hV
  obtain ⟨a0, rfl, rfl, rfl, b0⟩ := open_int Try.underlying39 (hval 0 39 v0 rfl rfl) h0
  obtain ⟨a1, rfl, rfl, rfl, b1⟩ := open_int Try.underlying39 (hval 1 39 v1 rfl rfl) h1
  obtain ⟨A2, cap2, a2, rfl, b2, c2, e2, g2⟩ := open_pairs (hval 2 40 v2 rfl rfl) h2
  obtain ⟨a3, rfl, rfl, rfl, b3⟩ := open_int Try.underlying5 (hval 3 5 v3 rfl rfl) h3
  obtain ⟨a4, rfl, rfl, rfl, b4⟩ := open_int Try.underlying5 (hval 4 5 v4 rfl rfl) h4
  obtain ⟨a5, rfl, rfl, rfl, b5⟩ := open_int Try.underlying5 (hval 5 5 v5 rfl rfl) h5
  simp only [List.append_nil] at hW'
  refine (ladditive_any a0 a1 a2 a3 a4 a5 _ A2 cap2 W (rngU16 b0) (rngU16 b1) (rngU8 b3) (rngU8 b4) (rngU8 b5) rfl g2 e2).mono fun e W' ⟨he, hch⟩ => ?_
  subst he
  exact ⟨_, rfl, _, _, _, [], _, [], hW', trodAll_mk1 (shut_bool Try.underlying4 _), args_again (by rw [Try.params9]; exact of_decide_eq_true (by kernel_rfl)) hA0 hch.below, rfl, hch.below.frame _, fun h => by cases h⟩

theorem interestAdditive_k0 : (Rows.interestAdditiveRow.wf (OpenSpec.ofChange Rows.interestAdditiveSpec)) = true := by kernel_rfl
theorem interestAdditive_k1 : (laidOutB Try.pinned.checked.prog) = true := by kernel_rfl
theorem interestAdditive_k2 : (mapsRowed Try.pinned.checked.prog) = true := by kernel_rfl
theorem interestAdditive_k3 : (Try.f9.params.all (Try.pinned.checked.prog.readableRec ·)) = true := by kernel_rfl
theorem interestAdditive_k4 : (namedTie Try.pinned.checked.prog Rows.interestAdditiveRow.named Rows.interestAdditiveSpec.vars) = true := by kernel_rfl
theorem interestAdditive_k5 : (Rows.interestAdditiveRow.stops == []) = true := by kernel_rfl
theorem interestAdditive_k6 : (Try.pinned.checked.prog.stops == []) = true := by kernel_rfl
theorem interestAdditive_k7 : (Rows.interestAdditiveRow.knobs == []) = true := by kernel_rfl
theorem interestAdditive_k8 : (Try.pinned.checked.prog.stopKnobs == []) = true := by kernel_rfl
theorem interestAdditive_k9 : (Rows.interestAdditiveRow.inPlace == Try.pinned.checked.prog.inPlace 9) = true := by kernel_rfl
theorem interestAdditive_k10 : (Rows.interestAdditiveRow.unfollowed == Try.pinned.checked.prog.unfollowed 9) = true := by kernel_rfl
theorem interestAdditive_k11 : (Rows.interestAdditiveRow.recurses == Try.pinned.checked.prog.recurses 9) = true := by kernel_rfl
theorem interestAdditive_k12 : (Rows.interestAdditiveRow.named == Try.pinned.checked.prog.varsNamed 9) = true := by kernel_rfl
theorem interestAdditive_k13 : (Rows.interestAdditiveRow.maps == (Try.f9.params.toList ++ Rows.interestAdditiveSpec.plain.varTypes Try.pinned.checked.prog).any (Try.pinned.checked.prog.mapsRec ·)) = true := by kernel_rfl
theorem interestAdditive_k14 : (Rows.interestAdditiveRow.ifaces == (Try.f9.params.toList ++ Rows.interestAdditiveSpec.plain.varTypes Try.pinned.checked.prog).any (Try.pinned.checked.prog.ifacesRec ·)) = true := by kernel_rfl
theorem interestAdditive_k15 : (Rows.interestAdditiveRow.mapsOut == Try.pinned.checked.prog.mapsAmong Try.f9.resultTypes.toList) = true := by kernel_rfl
theorem interestAdditive_k16 : (Rows.interestAdditiveRow.loops == (Try.f9.params.toList ++ Rows.interestAdditiveSpec.plain.varTypes Try.pinned.checked.prog).any (Try.pinned.checked.prog.loopsFrom ·)) = true := by kernel_rfl
theorem interestAdditive_k17 : (Rows.interestAdditiveRow.wideKeys == (Try.f9.params.toList ++ Rows.interestAdditiveSpec.plain.varTypes Try.pinned.checked.prog ++ Try.f9.resultTypes.toList).any (Try.pinned.checked.prog.wideKeysFrom ·)) = true := by kernel_rfl
theorem interestAdditive_k18 : (Rows.interestAdditiveSpec.vars.all (Try.pinned.checked.prog.varReadable ·)) = true := by kernel_rfl
theorem interestAdditive_k19 : (Try.f9.resultTypes.all (fun t => Try.pinned.checked.prog.readableRec t && decide (t < Try.pinned.checked.prog.types.size))) = true := by kernel_rfl
theorem interestAdditive_k20 : (Rows.interestAdditiveRow.ifacesOut == Try.f9.resultTypes.toList.any (Try.pinned.checked.prog.ifacesRec ·)) = true := by kernel_rfl
theorem interestAdditive_k21 : (Rows.interestAdditiveRow.loopsOut == Try.f9.resultTypes.toList.any (Try.pinned.checked.prog.loopsFrom ·)) = true := by kernel_rfl
theorem interestAdditive_k22 : (Rows.interestAdditiveRow.plainKeys == Try.pinned.checked.prog.plainKeys) = true := by kernel_rfl
theorem interestAdditive_k23 : (Rows.interestAdditiveRow.shortTexts.isNone) = true := by kernel_rfl
theorem interestAdditive_k24 : (Try.pinned.checked.prog.stopsHeard) = true := by kernel_rfl
theorem interestAdditive_k25 : (Try.pinned.checked.prog.mayEnter) = true := by kernel_rfl
theorem interestAdditive_k26 : (Rows.interestAdditiveRow.lifted == Try.pinned.checked.prog.liftsFinal) = true := by kernel_rfl
theorem interestAdditive_k27 : (Try.pinned.checked.prog.make == some Rows.interestAdditiveRow.make) = true := by kernel_rfl
theorem interestAdditive_k28 : (Rows.interestAdditiveRow.kinds == (if Rows.interestAdditiveRow.domain.isEmpty then [] else Try.f9.params.toList.map fun t => match Try.pinned.checked.prog.underlying t with | some (.int k) => some k | _ => none)) = true := by kernel_rfl
theorem interestAdditive_k29 : (Rows.interestAdditiveRow.pinned == Rows.interestAdditiveRow.pinnedBy) = true := by kernel_rfl
theorem interestAdditive_k30 : (Rows.interestAdditiveRow.veiled == (Try.f9.params.toList ++ Rows.interestAdditiveSpec.plain.varTypes Try.pinned.checked.prog ++ Try.f9.resultTypes.toList).any (Try.pinned.checked.prog.veiledRec ·)) = true := by kernel_rfl
theorem interestAdditive_k31 : (Rows.interestAdditiveRow.veiledFits Try.pinned.checked.prog Try.f9.params.toList (Try.f9.params.toList ++ Rows.interestAdditiveSpec.plain.varTypes Try.pinned.checked.prog ++ Try.f9.resultTypes.toList)) = true := by kernel_rfl
set_option maxRecDepth 100000 in
theorem interestAdditive_closed : joinedFacts Try.pinned.checked.prog 9 Try.f9 Rows.interestAdditiveSpec Rows.interestAdditiveRow = true := by
  simp only [joinedFacts, Bool.and_eq_true]
  exact ⟨⟨⟨⟨⟨⟨⟨⟨⟨⟨⟨⟨⟨⟨⟨⟨⟨⟨⟨⟨⟨⟨⟨⟨⟨⟨⟨⟨⟨⟨⟨interestAdditive_k0, interestAdditive_k1⟩, interestAdditive_k2⟩, interestAdditive_k3⟩, interestAdditive_k4⟩, interestAdditive_k5⟩, interestAdditive_k6⟩, interestAdditive_k7⟩, interestAdditive_k8⟩, interestAdditive_k9⟩, interestAdditive_k10⟩, interestAdditive_k11⟩, interestAdditive_k12⟩, interestAdditive_k13⟩, interestAdditive_k14⟩, interestAdditive_k15⟩, interestAdditive_k16⟩, interestAdditive_k17⟩, interestAdditive_k18⟩, interestAdditive_k19⟩, interestAdditive_k20⟩, interestAdditive_k21⟩, interestAdditive_k22⟩, interestAdditive_k23⟩, interestAdditive_k24⟩, interestAdditive_k25⟩, interestAdditive_k26⟩, interestAdditive_k27⟩, interestAdditive_k28⟩, interestAdditive_k29⟩, interestAdditive_k30⟩, interestAdditive_k31⟩

theorem interestAdditive_holds : Rows.InterestAdditiveSaid :=
  OpenClaim.holds_of_wide 9 Try.f9 rfl rfl rfl rfl rfl rfl rfl ⟨rfl, rfl, rfl, rfl, rfl⟩ rfl rfl rfl rfl rfl (by kernel_rfl) Try.func9 interestAdditive_closed
    (of_decide_eq_true (by kernel_rfl)) (by unfold Func.isWrapper; first | (rw [if_pos (by decide +kernel)]; kernel_rfl) | (rw [if_neg (by decide +kernel)]; exact ⟨rfl, rfl⟩))
    (fun os started H enc _ => interestAdditive_lifted os started H enc)

end Go.Proofs.Ytcfejphpflafiaa
