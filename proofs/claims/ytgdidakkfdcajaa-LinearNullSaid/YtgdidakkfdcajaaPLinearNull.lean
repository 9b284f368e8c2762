/-
  LinearNull: for every input the law returns true: the vectors of the kernel solve the homogeneous system, and their number and the rank add up to the number of columns. No condition.
-/
import Derived.Test.YtgdidakkfdcajaaLA24
import Derived.Test.YtgdidakkfdcajaaFrameW
namespace Go.Proofs.Ytgdidakkfdcajaa
open Go.RowKit Nd
open Go.ChangeShapes Go.WideShapes Go.ChangeAt
open Go.ChangeMaps (open_string shut_string)

set_option maxRecDepth 100000 in
theorem linearNull_lifted (os : Os) (started : os.Started) (H : Type) (enc : TypeId × Value → H) :
    ReturnsInHanded {} Try.checked os 7 .any (Rows.linearNullSpec.pre6 enc Try.prog Try.f7 [] false) (Rows.linearNullSpec.post enc Try.prog Try.f7 false true false false) := by
  refine returnsInHanded_of_change (C := Try.checked) own started (by kernel_rfl) Try.func7
    (ChangeSpec.witness6 (enc := enc) (C := Try.checked) false ⟨#[], #[.int .u8 0, .int .u8 0, .slice none 0 0], []⟩ 8 (by kernel_rfl) (by kernel_rfl) (by kernel_rfl) (by kernel_rfl)) ?_
  intro W base args ds gs before hval0 hW _ _
  have hval : ∀ (j : Nat) t v, Try.f7.params[j]? = some t → args[j]? = some v → Value.okWide Try.prog W .any base t v := hval0
  have hW' := hW
  obtain ⟨p, q, hA0, hV, rfl, _, _⟩ := hW
  have hA : DataW.TrodAll enc Try.prog W 0 (fun _ => true) true Try.f7.params.toList args.toList ds p := hA0
  rw [Try.params7] at hA hval
  obtain ⟨v0, v1, v2, d0, d1, d2, p0, p1, p2, rfl, rfl, rfl, h0, h1, h2⟩ := trodAll_three hA
  obtain ⟨rfl, rfl⟩ := trodVars_none hV
  obtain ⟨a0, rfl, rfl, rfl, b0⟩ := open_int Try.underlying5 (hval 0 5 v0 rfl rfl) h0
  obtain ⟨a1, rfl, rfl, rfl, b1⟩ := open_int Try.underlying5 (hval 1 5 v1 rfl rfl) h1
  obtain ⟨A2, cap2, a2, rfl, b2, c2, e2⟩ := open_ws (hval 2 49 v2 rfl rfl) h2
  simp only [List.append_nil] at hW'
  refine (lnull_any a0 a1 a2 _ A2 cap2 W (rngU8 b0) (rngU8 b1) rfl b2 c2 e2).mono fun e W' ⟨he, hch⟩ => ?_
  subst he
  exact ⟨_, rfl, _, _, _, [], _, [], hW', trodAll_mk1 (shut_bool Try.underlying4 _), args_again (by rw [Try.params7]; exact of_decide_eq_true (by kernel_rfl)) hA0 hch.below, rfl, hch.below.frame _, fun h => by cases h⟩

theorem linearNull_k0 : (Rows.linearNullRow.wf (OpenSpec.ofChange Rows.linearNullSpec)) = true := by kernel_rfl
theorem linearNull_k1 : (laidOutB Try.pinned.checked.prog) = true := by kernel_rfl
theorem linearNull_k2 : (mapsRowed Try.pinned.checked.prog) = true := by kernel_rfl
theorem linearNull_k3 : (Try.f7.params.all (Try.pinned.checked.prog.readableRec ·)) = true := by kernel_rfl
theorem linearNull_k4 : (namedTie Try.pinned.checked.prog Rows.linearNullRow.named Rows.linearNullSpec.vars) = true := by kernel_rfl
theorem linearNull_k5 : (Rows.linearNullRow.stops == []) = true := by kernel_rfl
theorem linearNull_k6 : (Try.pinned.checked.prog.stops == []) = true := by kernel_rfl
theorem linearNull_k7 : (Rows.linearNullRow.knobs == []) = true := by kernel_rfl
theorem linearNull_k8 : (Try.pinned.checked.prog.stopKnobs == []) = true := by kernel_rfl
theorem linearNull_k9 : (Rows.linearNullRow.inPlace == Try.pinned.checked.prog.inPlace 7) = true := by kernel_rfl
theorem linearNull_k10 : (Rows.linearNullRow.unfollowed == Try.pinned.checked.prog.unfollowed 7) = true := by kernel_rfl
theorem linearNull_k11 : (Rows.linearNullRow.recurses == Try.pinned.checked.prog.recurses 7) = true := by kernel_rfl
theorem linearNull_k12 : (Rows.linearNullRow.named == Try.pinned.checked.prog.varsNamed 7) = true := by kernel_rfl
theorem linearNull_k13 : (Rows.linearNullRow.maps == (Try.f7.params.toList ++ Rows.linearNullSpec.plain.varTypes Try.pinned.checked.prog).any (Try.pinned.checked.prog.mapsRec ·)) = true := by kernel_rfl
theorem linearNull_k14 : (Rows.linearNullRow.ifaces == (Try.f7.params.toList ++ Rows.linearNullSpec.plain.varTypes Try.pinned.checked.prog).any (Try.pinned.checked.prog.ifacesRec ·)) = true := by kernel_rfl
theorem linearNull_k15 : (Rows.linearNullRow.mapsOut == Try.pinned.checked.prog.mapsAmong Try.f7.resultTypes.toList) = true := by kernel_rfl
theorem linearNull_k16 : (Rows.linearNullRow.loops == (Try.f7.params.toList ++ Rows.linearNullSpec.plain.varTypes Try.pinned.checked.prog).any (Try.pinned.checked.prog.loopsFrom ·)) = true := by kernel_rfl
theorem linearNull_k17 : (Rows.linearNullRow.wideKeys == (Try.f7.params.toList ++ Rows.linearNullSpec.plain.varTypes Try.pinned.checked.prog ++ Try.f7.resultTypes.toList).any (Try.pinned.checked.prog.wideKeysFrom ·)) = true := by kernel_rfl
theorem linearNull_k18 : (Rows.linearNullSpec.vars.all (Try.pinned.checked.prog.varReadable ·)) = true := by kernel_rfl
theorem linearNull_k19 : (Try.f7.resultTypes.all (fun t => Try.pinned.checked.prog.readableRec t && decide (t < Try.pinned.checked.prog.types.size))) = true := by kernel_rfl
theorem linearNull_k20 : (Rows.linearNullRow.ifacesOut == Try.f7.resultTypes.toList.any (Try.pinned.checked.prog.ifacesRec ·)) = true := by kernel_rfl
theorem linearNull_k21 : (Rows.linearNullRow.loopsOut == Try.f7.resultTypes.toList.any (Try.pinned.checked.prog.loopsFrom ·)) = true := by kernel_rfl
theorem linearNull_k22 : (Rows.linearNullRow.plainKeys == Try.pinned.checked.prog.plainKeys) = true := by kernel_rfl
theorem linearNull_k23 : (Rows.linearNullRow.shortTexts.isNone) = true := by kernel_rfl
theorem linearNull_k24 : (Try.pinned.checked.prog.stopsHeard) = true := by kernel_rfl
theorem linearNull_k25 : (Try.pinned.checked.prog.mayEnter) = true := by kernel_rfl
theorem linearNull_k26 : (Rows.linearNullRow.lifted == Try.pinned.checked.prog.liftsFinal) = true := by kernel_rfl
theorem linearNull_k27 : (Try.pinned.checked.prog.make == some Rows.linearNullRow.make) = true := by kernel_rfl
theorem linearNull_k28 : (Rows.linearNullRow.kinds == (if Rows.linearNullRow.domain.isEmpty then [] else Try.f7.params.toList.map fun t => match Try.pinned.checked.prog.underlying t with | some (.int k) => some k | _ => none)) = true := by kernel_rfl
theorem linearNull_k29 : (Rows.linearNullRow.pinned == Rows.linearNullRow.pinnedBy) = true := by kernel_rfl
theorem linearNull_k30 : (Rows.linearNullRow.veiled == (Try.f7.params.toList ++ Rows.linearNullSpec.plain.varTypes Try.pinned.checked.prog ++ Try.f7.resultTypes.toList).any (Try.pinned.checked.prog.veiledRec ·)) = true := by kernel_rfl
theorem linearNull_k31 : (Rows.linearNullRow.veiledFits Try.pinned.checked.prog Try.f7.params.toList (Try.f7.params.toList ++ Rows.linearNullSpec.plain.varTypes Try.pinned.checked.prog ++ Try.f7.resultTypes.toList)) = true := by kernel_rfl
set_option maxRecDepth 100000 in
theorem linearNull_closed : joinedFacts Try.pinned.checked.prog 7 Try.f7 Rows.linearNullSpec Rows.linearNullRow = true := by
  simp only [joinedFacts, Bool.and_eq_true]
  exact ⟨⟨⟨⟨⟨⟨⟨⟨⟨⟨⟨⟨⟨⟨⟨⟨⟨⟨⟨⟨⟨⟨⟨⟨⟨⟨⟨⟨⟨⟨⟨linearNull_k0, linearNull_k1⟩, linearNull_k2⟩, linearNull_k3⟩, linearNull_k4⟩, linearNull_k5⟩, linearNull_k6⟩, linearNull_k7⟩, linearNull_k8⟩, linearNull_k9⟩, linearNull_k10⟩, linearNull_k11⟩, linearNull_k12⟩, linearNull_k13⟩, linearNull_k14⟩, linearNull_k15⟩, linearNull_k16⟩, linearNull_k17⟩, linearNull_k18⟩, linearNull_k19⟩, linearNull_k20⟩, linearNull_k21⟩, linearNull_k22⟩, linearNull_k23⟩, linearNull_k24⟩, linearNull_k25⟩, linearNull_k26⟩, linearNull_k27⟩, linearNull_k28⟩, linearNull_k29⟩, linearNull_k30⟩, linearNull_k31⟩

theorem linearNull_holds : Rows.LinearNullSaid :=
  OpenClaim.holds_of_wide 7 Try.f7 rfl rfl rfl rfl rfl rfl rfl ⟨rfl, rfl, rfl, rfl, rfl⟩ rfl rfl rfl rfl rfl (by kernel_rfl) Try.func7 linearNull_closed
    (of_decide_eq_true (by kernel_rfl)) (by unfold Func.isWrapper; first | (rw [if_pos (by decide +kernel)]; kernel_rfl) | (rw [if_neg (by decide +kernel)]; exact ⟨rfl, rfl⟩))
    (fun os started H enc _ => linearNull_lifted os started H enc)

end Go.Proofs.Ytgdidakkfdcajaa
