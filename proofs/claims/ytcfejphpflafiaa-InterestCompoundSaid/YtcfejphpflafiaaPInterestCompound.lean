/-
  InterestCompound: for every input the law returns true: Compound agrees with the definition for arbitrary arguments with at most 12 periods, or with an error. No condition.
-/
import Derived.Test.YtcfejphpflafiaaIA2
import Derived.Test.YtcfejphpflafiaaFrameT
namespace Go.Proofs.Ytcfejphpflafiaa
open Go.RowKit Nd
open Go.ChangeShapes Go.WideShapes Go.ChangeAt
open Go.ChangeMaps (open_string shut_string)

theorem i64rng {a : Int} (h : (Lit.int .i64 a).wf = true) : -9223372036854775808 ≤ a ∧ a ≤ 9223372036854775807 := by simpa [Lit.wf, IntKind.min, IntKind.max, IntKind.signed, IntKind.bits] using h

set_option maxRecDepth 100000 in
theorem interestCompound_lifted (os : Os) (started : os.Started) (H : Type) (enc : TypeId × Value → H) :
    ReturnsInHanded {} Try.checked os 7 .any (Rows.interestCompoundSpec.pre6 enc Try.prog Try.f7 [] false) (Rows.interestCompoundSpec.post enc Try.prog Try.f7 false true false false) := by
  refine returnsInHanded_of_change (C := Try.checked) own started (by kernel_rfl) Try.func7
    (ChangeSpec.witness6 (enc := enc) (C := Try.checked) false ⟨#[], #[.agg #[.bool false, .string ByteArray.empty, .string ByteArray.empty], .slice none 0 0, .int .i64 0, .int .i64 0, .int .i64 0, .int .i64 0], []⟩ 8 (by kernel_rfl) (by kernel_rfl) (by kernel_rfl) (by kernel_rfl)) ?_
  intro W base args ds gs before hval0 hW _ _
  have hval : ∀ (j : Nat) t v, Try.f7.params[j]? = some t → args[j]? = some v → Value.okWide Try.prog W .any base t v := hval0
  have hW' := hW
  obtain ⟨p, q, hA0, hV, rfl, _, _⟩ := hW
  have hA : DataW.TrodAll enc Try.prog W 0 (fun _ => true) true Try.f7.params.toList args.toList ds p := hA0
  rw [Try.params7] at hA hval
  obtain ⟨v0, v1, v2, v3, v4, v5, d0, d1, d2, d3, d4, d5, p0, p1, p2, p3, p4, p5, rfl, rfl, rfl, h0, h1, h2, h3, h4, h5⟩ := trodAll_six hA
  obtain ⟨rfl, rfl⟩ := trodVars_none hV
  obtain ⟨a0, rfl, rfl, rfl, b0, c0⟩ := open_rat (hval 0 29 v0 rfl rfl) h0
  obtain ⟨A1, cap1, a1, rfl, b1, c1, e1⟩ := open_steps (hval 1 22 v1 rfl rfl) h1
  obtain ⟨a2, rfl, rfl, rfl, b2⟩ := open_int Try.underlying3 (hval 2 3 v2 rfl rfl) h2
  obtain ⟨a3, rfl, rfl, rfl, b3⟩ := open_int Try.underlying3 (hval 3 3 v3 rfl rfl) h3
  obtain ⟨a4, rfl, rfl, rfl, b4⟩ := open_int Try.underlying3 (hval 4 3 v4 rfl rfl) h4
  obtain ⟨a5, rfl, rfl, rfl, b5⟩ := open_int Try.underlying3 (hval 5 3 v5 rfl rfl) h5
  simp only [List.append_nil] at hW'
  refine (lcompound_any a0 a1 a2 a3 a4 a5 _ A1 cap1 W (i64rng b2) (i64rng b3) (i64rng b5) rfl e1).mono fun e W' ⟨he, hch⟩ => ?_
  subst he
  exact ⟨_, rfl, _, _, _, [], _, [], hW', trodAll_mk1 (shut_bool Try.underlying4 _), args_again (by rw [Try.params7]; exact of_decide_eq_true (by kernel_rfl)) hA0 hch.below, rfl, hch.below.frame _, fun h => by cases h⟩

theorem interestCompound_k0 : (Rows.interestCompoundRow.wf (OpenSpec.ofChange Rows.interestCompoundSpec)) = true := by kernel_rfl
theorem interestCompound_k1 : (laidOutB Try.pinned.checked.prog) = true := by kernel_rfl
theorem interestCompound_k2 : (mapsRowed Try.pinned.checked.prog) = true := by kernel_rfl
theorem interestCompound_k3 : (Try.f7.params.all (Try.pinned.checked.prog.readableRec ·)) = true := by kernel_rfl
theorem interestCompound_k4 : (namedTie Try.pinned.checked.prog Rows.interestCompoundRow.named Rows.interestCompoundSpec.vars) = true := by kernel_rfl
theorem interestCompound_k5 : (Rows.interestCompoundRow.stops == []) = true := by kernel_rfl
theorem interestCompound_k6 : (Try.pinned.checked.prog.stops == []) = true := by kernel_rfl
theorem interestCompound_k7 : (Rows.interestCompoundRow.knobs == []) = true := by kernel_rfl
theorem interestCompound_k8 : (Try.pinned.checked.prog.stopKnobs == []) = true := by kernel_rfl
theorem interestCompound_k9 : (Rows.interestCompoundRow.inPlace == Try.pinned.checked.prog.inPlace 7) = true := by kernel_rfl
theorem interestCompound_k10 : (Rows.interestCompoundRow.unfollowed == Try.pinned.checked.prog.unfollowed 7) = true := by kernel_rfl
theorem interestCompound_k11 : (Rows.interestCompoundRow.recurses == Try.pinned.checked.prog.recurses 7) = true := by kernel_rfl
theorem interestCompound_k12 : (Rows.interestCompoundRow.named == Try.pinned.checked.prog.varsNamed 7) = true := by kernel_rfl
theorem interestCompound_k13 : (Rows.interestCompoundRow.maps == (Try.f7.params.toList ++ Rows.interestCompoundSpec.plain.varTypes Try.pinned.checked.prog).any (Try.pinned.checked.prog.mapsRec ·)) = true := by kernel_rfl
theorem interestCompound_k14 : (Rows.interestCompoundRow.ifaces == (Try.f7.params.toList ++ Rows.interestCompoundSpec.plain.varTypes Try.pinned.checked.prog).any (Try.pinned.checked.prog.ifacesRec ·)) = true := by kernel_rfl
theorem interestCompound_k15 : (Rows.interestCompoundRow.mapsOut == Try.pinned.checked.prog.mapsAmong Try.f7.resultTypes.toList) = true := by kernel_rfl
theorem interestCompound_k16 : (Rows.interestCompoundRow.loops == (Try.f7.params.toList ++ Rows.interestCompoundSpec.plain.varTypes Try.pinned.checked.prog).any (Try.pinned.checked.prog.loopsFrom ·)) = true := by kernel_rfl
theorem interestCompound_k17 : (Rows.interestCompoundRow.wideKeys == (Try.f7.params.toList ++ Rows.interestCompoundSpec.plain.varTypes Try.pinned.checked.prog ++ Try.f7.resultTypes.toList).any (Try.pinned.checked.prog.wideKeysFrom ·)) = true := by kernel_rfl
theorem interestCompound_k18 : (Rows.interestCompoundSpec.vars.all (Try.pinned.checked.prog.varReadable ·)) = true := by kernel_rfl
theorem interestCompound_k19 : (Try.f7.resultTypes.all (fun t => Try.pinned.checked.prog.readableRec t && decide (t < Try.pinned.checked.prog.types.size))) = true := by kernel_rfl
theorem interestCompound_k20 : (Rows.interestCompoundRow.ifacesOut == Try.f7.resultTypes.toList.any (Try.pinned.checked.prog.ifacesRec ·)) = true := by kernel_rfl
theorem interestCompound_k21 : (Rows.interestCompoundRow.loopsOut == Try.f7.resultTypes.toList.any (Try.pinned.checked.prog.loopsFrom ·)) = true := by kernel_rfl
theorem interestCompound_k22 : (Rows.interestCompoundRow.plainKeys == Try.pinned.checked.prog.plainKeys) = true := by kernel_rfl
theorem interestCompound_k23 : (Rows.interestCompoundRow.shortTexts.isNone) = true := by kernel_rfl
theorem interestCompound_k24 : (Try.pinned.checked.prog.stopsHeard) = true := by kernel_rfl
theorem interestCompound_k25 : (Try.pinned.checked.prog.mayEnter) = true := by kernel_rfl
theorem interestCompound_k26 : (Rows.interestCompoundRow.lifted == Try.pinned.checked.prog.liftsFinal) = true := by kernel_rfl
theorem interestCompound_k27 : (Try.pinned.checked.prog.make == some Rows.interestCompoundRow.make) = true := by kernel_rfl
theorem interestCompound_k28 : (Rows.interestCompoundRow.kinds == (if Rows.interestCompoundRow.domain.isEmpty then [] else Try.f7.params.toList.map fun t => match Try.pinned.checked.prog.underlying t with | some (.int k) => some k | _ => none)) = true := by kernel_rfl
theorem interestCompound_k29 : (Rows.interestCompoundRow.pinned == Rows.interestCompoundRow.pinnedBy) = true := by kernel_rfl
theorem interestCompound_k30 : (Rows.interestCompoundRow.veiled == (Try.f7.params.toList ++ Rows.interestCompoundSpec.plain.varTypes Try.pinned.checked.prog ++ Try.f7.resultTypes.toList).any (Try.pinned.checked.prog.veiledRec ·)) = true := by kernel_rfl
theorem interestCompound_k31 : (Rows.interestCompoundRow.veiledFits Try.pinned.checked.prog Try.f7.params.toList (Try.f7.params.toList ++ Rows.interestCompoundSpec.plain.varTypes Try.pinned.checked.prog ++ Try.f7.resultTypes.toList)) = true := by kernel_rfl
set_option maxRecDepth 100000 in
theorem interestCompound_closed : joinedFacts Try.pinned.checked.prog 7 Try.f7 Rows.interestCompoundSpec Rows.interestCompoundRow = true := by
  simp only [joinedFacts, Bool.and_eq_true]
  exact ⟨⟨⟨⟨⟨⟨⟨⟨⟨⟨⟨⟨⟨⟨⟨⟨⟨⟨⟨⟨⟨⟨⟨⟨⟨⟨⟨⟨⟨⟨⟨interestCompound_k0, interestCompound_k1⟩, interestCompound_k2⟩, interestCompound_k3⟩, interestCompound_k4⟩, interestCompound_k5⟩, interestCompound_k6⟩, interestCompound_k7⟩, interestCompound_k8⟩, interestCompound_k9⟩, interestCompound_k10⟩, interestCompound_k11⟩, interestCompound_k12⟩, interestCompound_k13⟩, interestCompound_k14⟩, interestCompound_k15⟩, interestCompound_k16⟩, interestCompound_k17⟩, interestCompound_k18⟩, interestCompound_k19⟩, interestCompound_k20⟩, interestCompound_k21⟩, interestCompound_k22⟩, interestCompound_k23⟩, interestCompound_k24⟩, interestCompound_k25⟩, interestCompound_k26⟩, interestCompound_k27⟩, interestCompound_k28⟩, interestCompound_k29⟩, interestCompound_k30⟩, interestCompound_k31⟩

theorem interestCompound_holds : Rows.InterestCompoundSaid :=
  OpenClaim.holds_of_wide 7 Try.f7 rfl rfl rfl rfl rfl rfl rfl ⟨rfl, rfl, rfl, rfl, rfl⟩ rfl rfl rfl rfl rfl (by kernel_rfl) Try.func7 interestCompound_closed
    (of_decide_eq_true (by kernel_rfl)) (by unfold Func.isWrapper; first | (rw [if_pos (by decide +kernel)]; kernel_rfl) | (rw [if_neg (by decide +kernel)]; exact ⟨rfl, rfl⟩))
    (fun os started H enc _ => interestCompound_lifted os started H enc)

end Go.Proofs.Ytcfejphpflafiaa
