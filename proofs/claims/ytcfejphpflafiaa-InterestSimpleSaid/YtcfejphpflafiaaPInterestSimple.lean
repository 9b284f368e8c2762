/-
  InterestSimple: for every input the law returns true: Simple agrees with the definition for arbitrary arguments. No condition.
-/
import Derived.Test.YtcfejphpflafiaaIA1
import Derived.Test.YtcfejphpflafiaaFrameT
namespace Go.Proofs.Ytcfejphpflafiaa
open Go.RowKit Nd
open Go.ChangeShapes Go.WideShapes Go.ChangeAt
open Go.ChangeMaps (open_string shut_string)

theorem i64rng {a : Int} (h : (Lit.int .i64 a).wf = true) : -9223372036854775808 ≤ a ∧ a ≤ 9223372036854775807 := by simpa [Lit.wf, IntKind.min, IntKind.max, IntKind.signed, IntKind.bits] using h

set_option maxRecDepth 100000 in
theorem interestSimple_lifted (os : Os) (started : os.Started) (H : Type) (enc : TypeId × Value → H) :
    ReturnsInHanded {} Try.checked os 5 .any (Rows.interestSimpleSpec.pre6 enc Try.prog Try.f5 [] false) (Rows.interestSimpleSpec.post enc Try.prog Try.f5 false true false false) := by
  refine returnsInHanded_of_change (C := Try.checked) own started (by kernel_rfl) Try.func5
    (ChangeSpec.witness6 (enc := enc) (C := Try.checked) false ⟨#[], #[.agg #[.bool false, .string ByteArray.empty, .string ByteArray.empty], .slice none 0 0, .int .i64 0, .int .i64 0, .int .i64 0], []⟩ 8 (by kernel_rfl) (by kernel_rfl) (by kernel_rfl) (by kernel_rfl)) ?_
  intro W base args ds gs before hval0 hW _ _
  have hval : ∀ (j : Nat) t v, Try.f5.params[j]? = some t → args[j]? = some v → Value.okWide Try.prog W .any base t v := hval0
  have hW' := hW
  obtain ⟨p, q, hA0, hV, rfl, _, _⟩ := hW
  have hA : DataW.TrodAll enc Try.prog W 0 (fun _ => true) true Try.f5.params.toList args.toList ds p := hA0
  rw [Try.params5] at hA hval
  obtain ⟨v0, v1, v2, v3, v4, d0, d1, d2, d3, d4, p0, p1, p2, p3, p4, rfl, rfl, rfl, h0, h1, h2, h3, h4⟩ := trodAll_five hA
  obtain ⟨rfl, rfl⟩ := trodVars_none hV
  obtain ⟨a0, rfl, rfl, rfl, b0, c0⟩ := open_rat (hval 0 29 v0 rfl rfl) h0
  obtain ⟨A1, cap1, a1, rfl, b1, c1, e1⟩ := open_steps (hval 1 22 v1 rfl rfl) h1
  obtain ⟨a2, rfl, rfl, rfl, b2⟩ := open_int Try.underlying3 (hval 2 3 v2 rfl rfl) h2
  obtain ⟨a3, rfl, rfl, rfl, b3⟩ := open_int Try.underlying3 (hval 3 3 v3 rfl rfl) h3
  obtain ⟨a4, rfl, rfl, rfl, b4⟩ := open_int Try.underlying3 (hval 4 3 v4 rfl rfl) h4
  simp only [List.append_nil] at hW'
  refine (lsimple_any a0 a1 a2 a3 a4 _ A1 cap1 W rfl e1).mono fun e W' ⟨he, hch⟩ => ?_
  subst he
  exact ⟨_, rfl, _, _, _, [], _, [], hW', trodAll_mk1 (shut_bool Try.underlying4 _), args_again (by rw [Try.params5]; exact of_decide_eq_true (by kernel_rfl)) hA0 hch.below, rfl, hch.below.frame _, fun h => by cases h⟩

theorem interestSimple_k0 : (Rows.interestSimpleRow.wf (OpenSpec.ofChange Rows.interestSimpleSpec)) = true := by kernel_rfl
theorem interestSimple_k1 : (laidOutB Try.pinned.checked.prog) = true := by kernel_rfl
theorem interestSimple_k2 : (mapsRowed Try.pinned.checked.prog) = true := by kernel_rfl
theorem interestSimple_k3 : (Try.f5.params.all (Try.pinned.checked.prog.readableRec ·)) = true := by kernel_rfl
theorem interestSimple_k4 : (namedTie Try.pinned.checked.prog Rows.interestSimpleRow.named Rows.interestSimpleSpec.vars) = true := by kernel_rfl
theorem interestSimple_k5 : (Rows.interestSimpleRow.stops == []) = true := by kernel_rfl
theorem interestSimple_k6 : (Try.pinned.checked.prog.stops == []) = true := by kernel_rfl
theorem interestSimple_k7 : (Rows.interestSimpleRow.knobs == []) = true := by kernel_rfl
theorem interestSimple_k8 : (Try.pinned.checked.prog.stopKnobs == []) = true := by kernel_rfl
theorem interestSimple_k9 : (Rows.interestSimpleRow.inPlace == Try.pinned.checked.prog.inPlace 5) = true := by kernel_rfl
theorem interestSimple_k10 : (Rows.interestSimpleRow.unfollowed == Try.pinned.checked.prog.unfollowed 5) = true := by kernel_rfl
theorem interestSimple_k11 : (Rows.interestSimpleRow.recurses == Try.pinned.checked.prog.recurses 5) = true := by kernel_rfl
theorem interestSimple_k12 : (Rows.interestSimpleRow.named == Try.pinned.checked.prog.varsNamed 5) = true := by kernel_rfl
theorem interestSimple_k13 : (Rows.interestSimpleRow.maps == (Try.f5.params.toList ++ Rows.interestSimpleSpec.plain.varTypes Try.pinned.checked.prog).any (Try.pinned.checked.prog.mapsRec ·)) = true := by kernel_rfl
theorem interestSimple_k14 : (Rows.interestSimpleRow.ifaces == (Try.f5.params.toList ++ Rows.interestSimpleSpec.plain.varTypes Try.pinned.checked.prog).any (Try.pinned.checked.prog.ifacesRec ·)) = true := by kernel_rfl
theorem interestSimple_k15 : (Rows.interestSimpleRow.mapsOut == Try.pinned.checked.prog.mapsAmong Try.f5.resultTypes.toList) = true := by kernel_rfl
theorem interestSimple_k16 : (Rows.interestSimpleRow.loops == (Try.f5.params.toList ++ Rows.interestSimpleSpec.plain.varTypes Try.pinned.checked.prog).any (Try.pinned.checked.prog.loopsFrom ·)) = true := by kernel_rfl
theorem interestSimple_k17 : (Rows.interestSimpleRow.wideKeys == (Try.f5.params.toList ++ Rows.interestSimpleSpec.plain.varTypes Try.pinned.checked.prog ++ Try.f5.resultTypes.toList).any (Try.pinned.checked.prog.wideKeysFrom ·)) = true := by kernel_rfl
theorem interestSimple_k18 : (Rows.interestSimpleSpec.vars.all (Try.pinned.checked.prog.varReadable ·)) = true := by kernel_rfl
theorem interestSimple_k19 : (Try.f5.resultTypes.all (fun t => Try.pinned.checked.prog.readableRec t && decide (t < Try.pinned.checked.prog.types.size))) = true := by kernel_rfl
theorem interestSimple_k20 : (Rows.interestSimpleRow.ifacesOut == Try.f5.resultTypes.toList.any (Try.pinned.checked.prog.ifacesRec ·)) = true := by kernel_rfl
theorem interestSimple_k21 : (Rows.interestSimpleRow.loopsOut == Try.f5.resultTypes.toList.any (Try.pinned.checked.prog.loopsFrom ·)) = true := by kernel_rfl
theorem interestSimple_k22 : (Rows.interestSimpleRow.plainKeys == Try.pinned.checked.prog.plainKeys) = true := by kernel_rfl
theorem interestSimple_k23 : (Rows.interestSimpleRow.shortTexts.isNone) = true := by kernel_rfl
theorem interestSimple_k24 : (Try.pinned.checked.prog.stopsHeard) = true := by kernel_rfl
theorem interestSimple_k25 : (Try.pinned.checked.prog.mayEnter) = true := by kernel_rfl
theorem interestSimple_k26 : (Rows.interestSimpleRow.lifted == Try.pinned.checked.prog.liftsFinal) = true := by kernel_rfl
theorem interestSimple_k27 : (Try.pinned.checked.prog.make == some Rows.interestSimpleRow.make) = true := by kernel_rfl
theorem interestSimple_k28 : (Rows.interestSimpleRow.kinds == (if Rows.interestSimpleRow.domain.isEmpty then [] else Try.f5.params.toList.map fun t => match Try.pinned.checked.prog.underlying t with | some (.int k) => some k | _ => none)) = true := by kernel_rfl
theorem interestSimple_k29 : (Rows.interestSimpleRow.pinned == Rows.interestSimpleRow.pinnedBy) = true := by kernel_rfl
theorem interestSimple_k30 : (Rows.interestSimpleRow.veiled == (Try.f5.params.toList ++ Rows.interestSimpleSpec.plain.varTypes Try.pinned.checked.prog ++ Try.f5.resultTypes.toList).any (Try.pinned.checked.prog.veiledRec ·)) = true := by kernel_rfl
theorem interestSimple_k31 : (Rows.interestSimpleRow.veiledFits Try.pinned.checked.prog Try.f5.params.toList (Try.f5.params.toList ++ Rows.interestSimpleSpec.plain.varTypes Try.pinned.checked.prog ++ Try.f5.resultTypes.toList)) = true := by kernel_rfl
set_option maxRecDepth 100000 in
theorem interestSimple_closed : joinedFacts Try.pinned.checked.prog 5 Try.f5 Rows.interestSimpleSpec Rows.interestSimpleRow = true := by
  simp only [joinedFacts, Bool.and_eq_true]
  exact ⟨⟨⟨⟨⟨⟨⟨⟨⟨⟨⟨⟨⟨⟨⟨⟨⟨⟨⟨⟨⟨⟨⟨⟨⟨⟨⟨⟨⟨⟨⟨interestSimple_k0, interestSimple_k1⟩, interestSimple_k2⟩, interestSimple_k3⟩, interestSimple_k4⟩, interestSimple_k5⟩, interestSimple_k6⟩, interestSimple_k7⟩, interestSimple_k8⟩, interestSimple_k9⟩, interestSimple_k10⟩, interestSimple_k11⟩, interestSimple_k12⟩, interestSimple_k13⟩, interestSimple_k14⟩, interestSimple_k15⟩, interestSimple_k16⟩, interestSimple_k17⟩, interestSimple_k18⟩, interestSimple_k19⟩, interestSimple_k20⟩, interestSimple_k21⟩, interestSimple_k22⟩, interestSimple_k23⟩, interestSimple_k24⟩, interestSimple_k25⟩, interestSimple_k26⟩, interestSimple_k27⟩, interestSimple_k28⟩, interestSimple_k29⟩, interestSimple_k30⟩, interestSimple_k31⟩

theorem interestSimple_holds : Rows.InterestSimpleSaid :=
  OpenClaim.holds_of_wide 5 Try.f5 rfl rfl rfl rfl rfl rfl rfl ⟨rfl, rfl, rfl, rfl, rfl⟩ rfl rfl rfl rfl rfl (by kernel_rfl) Try.func5 interestSimple_closed
    (of_decide_eq_true (by kernel_rfl)) (by unfold Func.isWrapper; first | (rw [if_pos (by decide +kernel)]; kernel_rfl) | (rw [if_neg (by decide +kernel)]; exact ⟨rfl, rfl⟩))
    (fun os started H enc _ => interestSimple_lifted os started H enc)

end Go.Proofs.Ytcfejphpflafiaa
