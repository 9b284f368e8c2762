/-
  LinearRows: for every input the law returns true: the reduced form does not change if a multiple of a row is added to another one, or rows are exchanged. No condition.
-/
import Derived.Test.YtpaochhaenehmaaLA25
import Derived.Test.YtpaochhaenehmaaFrameU
namespace Go.Proofs.Ytpaochhaenehmaa
open Go.RowKit Nd
open Go.ChangeShapes Go.WideShapes Go.ChangeAt
open Go.ChangeMaps (open_string shut_string)

set_option maxRecDepth 100000 in
theorem linearRows_lifted (os : Os) (started : os.Started) (H : Type) (enc : TypeId × Value → H) :
    ReturnsInHanded {} Try.checked os 5 .any (Rows.linearRowsSpec.pre6 enc Try.prog Try.f5 [] false) (Rows.linearRowsSpec.post enc Try.prog Try.f5 false true false false) := by
  refine returnsInHanded_of_change (C := Try.checked) own started (by kernel_rfl) Try.func5
    (ChangeSpec.witness6 (enc := enc) (C := Try.checked) false ⟨#[], #[.int .u8 0, .int .u8 0, .slice none 0 0, .int .u8 0, .int .u8 0, .int .u16 0], []⟩ 8 (by kernel_rfl) (by kernel_rfl) (by kernel_rfl) (by kernel_rfl)) ?_
  intro W base args ds gs before hval0 hW _ _
  have hval : ∀ (j : Nat) t v, Try.f5.params[j]? = some t → args[j]? = some v → Value.okWide Try.prog W .any base t v := hval0
  have hW' := hW
  obtain ⟨p, q, hA0, hV, rfl, _, _⟩ := hW
  have hA : DataW.TrodAll enc Try.prog W 0 (fun _ => true) true Try.f5.params.toList args.toList ds p := hA0
  rw [Try.params5] at hA hval
  obtain ⟨v0, v1, v2, v3, v4, v5, d0, d1, d2, d3, d4, d5, p0, p1, p2, p3, p4, p5, rfl, rfl, rfl, h0, h1, h2, h3, h4, h5⟩ := trodAll_six hA
  obtain ⟨rfl, rfl⟩ := trodVars_none hV
  obtain ⟨a0, rfl, rfl, rfl, b0⟩ := open_int Try.underlying5 (hval 0 5 v0 rfl rfl) h0
  obtain ⟨a1, rfl, rfl, rfl, b1⟩ := open_int Try.underlying5 (hval 1 5 v1 rfl rfl) h1
  obtain ⟨A2, cap2, a2, rfl, b2, c2, e2⟩ := open_ws (hval 2 44 v2 rfl rfl) h2
  obtain ⟨a3, rfl, rfl, rfl, b3⟩ := open_int Try.underlying5 (hval 3 5 v3 rfl rfl) h3
  obtain ⟨a4, rfl, rfl, rfl, b4⟩ := open_int Try.underlying5 (hval 4 5 v4 rfl rfl) h4
  obtain ⟨a5, rfl, rfl, rfl, b5⟩ := open_int Try.underlying45 (hval 5 45 v5 rfl rfl) h5
  simp only [List.append_nil] at hW'
  refine (lrows_any a0 a1 a2 _ A2 cap2 a3 a4 a5 W (rngU8 b0) (rngU8 b1) rfl b2 c2 e2 (rngU8 b3) (rngU8 b4) (rngU16 b5)).mono fun e W' ⟨he, hch⟩ => ?_
  subst he
  exact ⟨_, rfl, _, _, _, [], _, [], hW', trodAll_mk1 (shut_bool Try.underlying4 _), args_again (by rw [Try.params5]; exact of_decide_eq_true (by kernel_rfl)) hA0 hch.below, rfl, hch.below.frame _, fun h => by cases h⟩

theorem linearRows_k0 : (Rows.linearRowsRow.wf (OpenSpec.ofChange Rows.linearRowsSpec)) = true := by kernel_rfl
theorem linearRows_k1 : (laidOutB Try.pinned.checked.prog) = true := by kernel_rfl
theorem linearRows_k2 : (mapsRowed Try.pinned.checked.prog) = true := by kernel_rfl
theorem linearRows_k3 : (Try.f5.params.all (Try.pinned.checked.prog.readableRec ·)) = true := by kernel_rfl
theorem linearRows_k4 : (namedTie Try.pinned.checked.prog Rows.linearRowsRow.named Rows.linearRowsSpec.vars) = true := by kernel_rfl
theorem linearRows_k5 : (Rows.linearRowsRow.stops == []) = true := by kernel_rfl
theorem linearRows_k6 : (Try.pinned.checked.prog.stops == []) = true := by kernel_rfl
theorem linearRows_k7 : (Rows.linearRowsRow.knobs == []) = true := by kernel_rfl
theorem linearRows_k8 : (Try.pinned.checked.prog.stopKnobs == []) = true := by kernel_rfl
theorem linearRows_k9 : (Rows.linearRowsRow.inPlace == Try.pinned.checked.prog.inPlace 5) = true := by kernel_rfl
theorem linearRows_k10 : (Rows.linearRowsRow.unfollowed == Try.pinned.checked.prog.unfollowed 5) = true := by kernel_rfl
theorem linearRows_k11 : (Rows.linearRowsRow.recurses == Try.pinned.checked.prog.recurses 5) = true := by kernel_rfl
theorem linearRows_k12 : (Rows.linearRowsRow.named == Try.pinned.checked.prog.varsNamed 5) = true := by kernel_rfl
theorem linearRows_k13 : (Rows.linearRowsRow.maps == (Try.f5.params.toList ++ Rows.linearRowsSpec.plain.varTypes Try.pinned.checked.prog).any (Try.pinned.checked.prog.mapsRec ·)) = true := by kernel_rfl
theorem linearRows_k14 : (Rows.linearRowsRow.ifaces == (Try.f5.params.toList ++ Rows.linearRowsSpec.plain.varTypes Try.pinned.checked.prog).any (Try.pinned.checked.prog.ifacesRec ·)) = true := by kernel_rfl
theorem linearRows_k15 : (Rows.linearRowsRow.mapsOut == Try.pinned.checked.prog.mapsAmong Try.f5.resultTypes.toList) = true := by kernel_rfl
theorem linearRows_k16 : (Rows.linearRowsRow.loops == (Try.f5.params.toList ++ Rows.linearRowsSpec.plain.varTypes Try.pinned.checked.prog).any (Try.pinned.checked.prog.loopsFrom ·)) = true := by kernel_rfl
theorem linearRows_k17 : (Rows.linearRowsRow.wideKeys == (Try.f5.params.toList ++ Rows.linearRowsSpec.plain.varTypes Try.pinned.checked.prog ++ Try.f5.resultTypes.toList).any (Try.pinned.checked.prog.wideKeysFrom ·)) = true := by kernel_rfl
theorem linearRows_k18 : (Rows.linearRowsSpec.vars.all (Try.pinned.checked.prog.varReadable ·)) = true := by kernel_rfl
theorem linearRows_k19 : (Try.f5.resultTypes.all (fun t => Try.pinned.checked.prog.readableRec t && decide (t < Try.pinned.checked.prog.types.size))) = true := by kernel_rfl
theorem linearRows_k20 : (Rows.linearRowsRow.ifacesOut == Try.f5.resultTypes.toList.any (Try.pinned.checked.prog.ifacesRec ·)) = true := by kernel_rfl
theorem linearRows_k21 : (Rows.linearRowsRow.loopsOut == Try.f5.resultTypes.toList.any (Try.pinned.checked.prog.loopsFrom ·)) = true := by kernel_rfl
theorem linearRows_k22 : (Rows.linearRowsRow.plainKeys == Try.pinned.checked.prog.plainKeys) = true := by kernel_rfl
theorem linearRows_k23 : (Rows.linearRowsRow.shortTexts.isNone) = true := by kernel_rfl
theorem linearRows_k24 : (Try.pinned.checked.prog.stopsHeard) = true := by kernel_rfl
theorem linearRows_k25 : (Try.pinned.checked.prog.mayEnter) = true := by kernel_rfl
theorem linearRows_k26 : (Rows.linearRowsRow.lifted == Try.pinned.checked.prog.liftsFinal) = true := by kernel_rfl
theorem linearRows_k27 : (Try.pinned.checked.prog.make == some Rows.linearRowsRow.make) = true := by kernel_rfl
theorem linearRows_k28 : (Rows.linearRowsRow.kinds == (if Rows.linearRowsRow.domain.isEmpty then [] else Try.f5.params.toList.map fun t => match Try.pinned.checked.prog.underlying t with | some (.int k) => some k | _ => none)) = true := by kernel_rfl
theorem linearRows_k29 : (Rows.linearRowsRow.pinned == Rows.linearRowsRow.pinnedBy) = true := by kernel_rfl
theorem linearRows_k30 : (Rows.linearRowsRow.veiled == (Try.f5.params.toList ++ Rows.linearRowsSpec.plain.varTypes Try.pinned.checked.prog ++ Try.f5.resultTypes.toList).any (Try.pinned.checked.prog.veiledRec ·)) = true := by kernel_rfl
theorem linearRows_k31 : (Rows.linearRowsRow.veiledFits Try.pinned.checked.prog Try.f5.params.toList (Try.f5.params.toList ++ Rows.linearRowsSpec.plain.varTypes Try.pinned.checked.prog ++ Try.f5.resultTypes.toList)) = true := by kernel_rfl
set_option maxRecDepth 100000 in
theorem linearRows_closed : joinedFacts Try.pinned.checked.prog 5 Try.f5 Rows.linearRowsSpec Rows.linearRowsRow = true := by
  simp only [joinedFacts, Bool.and_eq_true]
  exact ⟨⟨⟨⟨⟨⟨⟨⟨⟨⟨⟨⟨⟨⟨⟨⟨⟨⟨⟨⟨⟨⟨⟨⟨⟨⟨⟨⟨⟨⟨⟨linearRows_k0, linearRows_k1⟩, linearRows_k2⟩, linearRows_k3⟩, linearRows_k4⟩, linearRows_k5⟩, linearRows_k6⟩, linearRows_k7⟩, linearRows_k8⟩, linearRows_k9⟩, linearRows_k10⟩, linearRows_k11⟩, linearRows_k12⟩, linearRows_k13⟩, linearRows_k14⟩, linearRows_k15⟩, linearRows_k16⟩, linearRows_k17⟩, linearRows_k18⟩, linearRows_k19⟩, linearRows_k20⟩, linearRows_k21⟩, linearRows_k22⟩, linearRows_k23⟩, linearRows_k24⟩, linearRows_k25⟩, linearRows_k26⟩, linearRows_k27⟩, linearRows_k28⟩, linearRows_k29⟩, linearRows_k30⟩, linearRows_k31⟩

theorem linearRows_holds : Rows.LinearRowsSaid :=
  OpenClaim.holds_of_wide 5 Try.f5 rfl rfl rfl rfl rfl rfl rfl ⟨rfl, rfl, rfl, rfl, rfl⟩ rfl rfl rfl rfl rfl (by kernel_rfl) Try.func5 linearRows_closed
    (of_decide_eq_true (by kernel_rfl)) (by unfold Func.isWrapper; first | (rw [if_pos (by decide +kernel)]; kernel_rfl) | (rw [if_neg (by decide +kernel)]; exact ⟨rfl, rfl⟩))
    (fun os started H enc _ => linearRows_lifted os started H enc)

end Go.Proofs.Ytpaochhaenehmaa
