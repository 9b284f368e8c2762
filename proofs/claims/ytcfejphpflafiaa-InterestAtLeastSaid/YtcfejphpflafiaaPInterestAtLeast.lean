/-
  InterestAtLeast: for every input the law returns true: compound interest is at least simple interest, and equal to it within a single period. No condition.
-/
import Derived.Test.YtcfejphpflafiaaIA6
import Derived.Test.YtcfejphpflafiaaFrameT
namespace Go.Proofs.Ytcfejphpflafiaa
open Go.RowKit Nd
open Go.ChangeShapes Go.WideShapes Go.ChangeAt
open Go.ChangeMaps (open_string shut_string)

set_option maxRecDepth 100000 in
theorem interestAtLeast_lifted (os : Os) (started : os.Started) (H : Type) (enc : TypeId × Value → H) :
    ReturnsInHanded {} Try.checked os 10 .any (Rows.interestAtLeastSpec.pre6 enc Try.prog Try.f10 [] false) (Rows.interestAtLeastSpec.post enc Try.prog Try.f10 false true false false) := by
  refine returnsInHanded_of_change (C := Try.checked) own started (by kernel_rfl) Try.func10
    (ChangeSpec.witness6 (enc := enc) (C := Try.checked) false ⟨#[], #[.int .u16 0, .slice none 0 0, .int .u8 0, .int .u8 0, .int .u8 0], []⟩ 8 (by kernel_rfl) (by kernel_rfl) (by kernel_rfl) (by kernel_rfl)) ?_
  intro W base args ds gs before hval0 hW _ _
  have hval : ∀ (j : Nat) t v, Try.f10.params[j]? = some t → args[j]? = some v → Value.okWide Try.prog W .any base t v := hval0
  have hW' := hW
  obtain ⟨p, q, hA0, hV, rfl, _, _⟩ := hW
  have hA : DataW.TrodAll enc Try.prog W 0 (fun _ => true) true Try.f10.params.toList args.toList ds p := hA0
  rw [Try.params10] at hA hval
  obtain ⟨v0, v1, v2, v3, v4, d0, d1, d2, d3, d4, p0, p1, p2, p3, p4, rfl, rfl, rfl, h0, h1, h2, h3, h4⟩ := trodAll_five hA
  obtain ⟨rfl, rfl⟩ := trodVars_none hV
  obtain ⟨a0, rfl, rfl, rfl, b0⟩ := open_int Try.underlying39 (hval 0 39 v0 rfl rfl) h0
  obtain ⟨A1, cap1, a1, rfl, b1, c1, e1, g1⟩ := open_pairs (hval 1 40 v1 rfl rfl) h1
  obtain ⟨a2, rfl, rfl, rfl, b2⟩ := open_int Try.underlying5 (hval 2 5 v2 rfl rfl) h2
  obtain ⟨a3, rfl, rfl, rfl, b3⟩ := open_int Try.underlying5 (hval 3 5 v3 rfl rfl) h3
  obtain ⟨a4, rfl, rfl, rfl, b4⟩ := open_int Try.underlying5 (hval 4 5 v4 rfl rfl) h4
  simp only [List.append_nil] at hW'
  refine (latleast_any a0 a1 a2 a3 a4 _ A1 cap1 W (rngU16 b0) (rngU8 b2) (rngU8 b3) (rngU8 b4) rfl g1 e1).mono fun e W' ⟨he, hch⟩ => ?_
  subst he
  exact ⟨_, rfl, _, _, _, [], _, [], hW', trodAll_mk1 (shut_bool Try.underlying4 _), args_again (by rw [Try.params10]; exact of_decide_eq_true (by kernel_rfl)) hA0 hch.below, rfl, hch.below.frame _, fun h => by cases h⟩

theorem interestAtLeast_k0 : (Rows.interestAtLeastRow.wf (OpenSpec.ofChange Rows.interestAtLeastSpec)) = true := by kernel_rfl
theorem interestAtLeast_k1 : (laidOutB Try.pinned.checked.prog) = true := by kernel_rfl
theorem interestAtLeast_k2 : (mapsRowed Try.pinned.checked.prog) = true := by kernel_rfl
theorem interestAtLeast_k3 : (Try.f10.params.all (Try.pinned.checked.prog.readableRec ·)) = true := by kernel_rfl
theorem interestAtLeast_k4 : (namedTie Try.pinned.checked.prog Rows.interestAtLeastRow.named Rows.interestAtLeastSpec.vars) = true := by kernel_rfl
theorem interestAtLeast_k5 : (Rows.interestAtLeastRow.stops == []) = true := by kernel_rfl
theorem interestAtLeast_k6 : (Try.pinned.checked.prog.stops == []) = true := by kernel_rfl
theorem interestAtLeast_k7 : (Rows.interestAtLeastRow.knobs == []) = true := by kernel_rfl
theorem interestAtLeast_k8 : (Try.pinned.checked.prog.stopKnobs == []) = true := by kernel_rfl
theorem interestAtLeast_k9 : (Rows.interestAtLeastRow.inPlace == Try.pinned.checked.prog.inPlace 10) = true := by kernel_rfl
theorem interestAtLeast_k10 : (Rows.interestAtLeastRow.unfollowed == Try.pinned.checked.prog.unfollowed 10) = true := by kernel_rfl
theorem interestAtLeast_k11 : (Rows.interestAtLeastRow.recurses == Try.pinned.checked.prog.recurses 10) = true := by kernel_rfl
theorem interestAtLeast_k12 : (Rows.interestAtLeastRow.named == Try.pinned.checked.prog.varsNamed 10) = true := by kernel_rfl
theorem interestAtLeast_k13 : (Rows.interestAtLeastRow.maps == (Try.f10.params.toList ++ Rows.interestAtLeastSpec.plain.varTypes Try.pinned.checked.prog).any (Try.pinned.checked.prog.mapsRec ·)) = true := by kernel_rfl
theorem interestAtLeast_k14 : (Rows.interestAtLeastRow.ifaces == (Try.f10.params.toList ++ Rows.interestAtLeastSpec.plain.varTypes Try.pinned.checked.prog).any (Try.pinned.checked.prog.ifacesRec ·)) = true := by kernel_rfl
theorem interestAtLeast_k15 : (Rows.interestAtLeastRow.mapsOut == Try.pinned.checked.prog.mapsAmong Try.f10.resultTypes.toList) = true := by kernel_rfl
theorem interestAtLeast_k16 : (Rows.interestAtLeastRow.loops == (Try.f10.params.toList ++ Rows.interestAtLeastSpec.plain.varTypes Try.pinned.checked.prog).any (Try.pinned.checked.prog.loopsFrom ·)) = true := by kernel_rfl
theorem interestAtLeast_k17 : (Rows.interestAtLeastRow.wideKeys == (Try.f10.params.toList ++ Rows.interestAtLeastSpec.plain.varTypes Try.pinned.checked.prog ++ Try.f10.resultTypes.toList).any (Try.pinned.checked.prog.wideKeysFrom ·)) = true := by kernel_rfl
theorem interestAtLeast_k18 : (Rows.interestAtLeastSpec.vars.all (Try.pinned.checked.prog.varReadable ·)) = true := by kernel_rfl
theorem interestAtLeast_k19 : (Try.f10.resultTypes.all (fun t => Try.pinned.checked.prog.readableRec t && decide (t < Try.pinned.checked.prog.types.size))) = true := by kernel_rfl
theorem interestAtLeast_k20 : (Rows.interestAtLeastRow.ifacesOut == Try.f10.resultTypes.toList.any (Try.pinned.checked.prog.ifacesRec ·)) = true := by kernel_rfl
theorem interestAtLeast_k21 : (Rows.interestAtLeastRow.loopsOut == Try.f10.resultTypes.toList.any (Try.pinned.checked.prog.loopsFrom ·)) = true := by kernel_rfl
theorem interestAtLeast_k22 : (Rows.interestAtLeastRow.plainKeys == Try.pinned.checked.prog.plainKeys) = true := by kernel_rfl
theorem interestAtLeast_k23 : (Rows.interestAtLeastRow.shortTexts.isNone) = true := by kernel_rfl
theorem interestAtLeast_k24 : (Try.pinned.checked.prog.stopsHeard) = true := by kernel_rfl
theorem interestAtLeast_k25 : (Try.pinned.checked.prog.mayEnter) = true := by kernel_rfl
theorem interestAtLeast_k26 : (Rows.interestAtLeastRow.lifted == Try.pinned.checked.prog.liftsFinal) = true := by kernel_rfl
theorem interestAtLeast_k27 : (Try.pinned.checked.prog.make == some Rows.interestAtLeastRow.make) = true := by kernel_rfl
theorem interestAtLeast_k28 : (Rows.interestAtLeastRow.kinds == (if Rows.interestAtLeastRow.domain.isEmpty then [] else Try.f10.params.toList.map fun t => match Try.pinned.checked.prog.underlying t with | some (.int k) => some k | _ => none)) = true := by kernel_rfl
theorem interestAtLeast_k29 : (Rows.interestAtLeastRow.pinned == Rows.interestAtLeastRow.pinnedBy) = true := by kernel_rfl
theorem interestAtLeast_k30 : (Rows.interestAtLeastRow.veiled == (Try.f10.params.toList ++ Rows.interestAtLeastSpec.plain.varTypes Try.pinned.checked.prog ++ Try.f10.resultTypes.toList).any (Try.pinned.checked.prog.veiledRec ·)) = true := by kernel_rfl
theorem interestAtLeast_k31 : (Rows.interestAtLeastRow.veiledFits Try.pinned.checked.prog Try.f10.params.toList (Try.f10.params.toList ++ Rows.interestAtLeastSpec.plain.varTypes Try.pinned.checked.prog ++ Try.f10.resultTypes.toList)) = true := by kernel_rfl
set_option maxRecDepth 100000 in
theorem interestAtLeast_closed : joinedFacts Try.pinned.checked.prog 10 Try.f10 Rows.interestAtLeastSpec Rows.interestAtLeastRow = true := by
  simp only [joinedFacts, Bool.and_eq_true]
  exact ⟨⟨⟨⟨⟨⟨⟨⟨⟨⟨⟨⟨⟨⟨⟨⟨⟨⟨⟨⟨⟨⟨⟨⟨⟨⟨⟨⟨⟨⟨⟨interestAtLeast_k0, interestAtLeast_k1⟩, interestAtLeast_k2⟩, interestAtLeast_k3⟩, interestAtLeast_k4⟩, interestAtLeast_k5⟩, interestAtLeast_k6⟩, interestAtLeast_k7⟩, interestAtLeast_k8⟩, interestAtLeast_k9⟩, interestAtLeast_k10⟩, interestAtLeast_k11⟩, interestAtLeast_k12⟩, interestAtLeast_k13⟩, interestAtLeast_k14⟩, interestAtLeast_k15⟩, interestAtLeast_k16⟩, interestAtLeast_k17⟩, interestAtLeast_k18⟩, interestAtLeast_k19⟩, interestAtLeast_k20⟩, interestAtLeast_k21⟩, interestAtLeast_k22⟩, interestAtLeast_k23⟩, interestAtLeast_k24⟩, interestAtLeast_k25⟩, interestAtLeast_k26⟩, interestAtLeast_k27⟩, interestAtLeast_k28⟩, interestAtLeast_k29⟩, interestAtLeast_k30⟩, interestAtLeast_k31⟩

theorem interestAtLeast_holds : Rows.InterestAtLeastSaid :=
  OpenClaim.holds_of_wide 10 Try.f10 rfl rfl rfl rfl rfl rfl rfl ⟨rfl, rfl, rfl, rfl, rfl⟩ rfl rfl rfl rfl rfl (by kernel_rfl) Try.func10 interestAtLeast_closed
    (of_decide_eq_true (by kernel_rfl)) (by unfold Func.isWrapper; first | (rw [if_pos (by decide +kernel)]; kernel_rfl) | (rw [if_neg (by decide +kernel)]; exact ⟨rfl, rfl⟩))
    (fun os started H enc _ => interestAtLeast_lifted os started H enc)

end Go.Proofs.Ytcfejphpflafiaa
