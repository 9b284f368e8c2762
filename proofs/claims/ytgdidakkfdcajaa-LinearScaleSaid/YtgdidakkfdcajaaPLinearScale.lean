/-
  LinearScale: for every input the law returns true: the determinant is multiplied if a row is, and changes its sign if rows are exchanged. No condition.
-/
import Derived.Test.YtgdidakkfdcajaaLA29
import Derived.Test.YtgdidakkfdcajaaFrameW
namespace Go.Proofs.Ytgdidakkfdcajaa
open Go.RowKit Nd
open Go.ChangeShapes Go.WideShapes Go.ChangeAt
open Go.ChangeMaps (open_string shut_string)

set_option maxRecDepth 100000 in
theorem linearScale_lifted (os : Os) (started : os.Started) (H : Type) (enc : TypeId × Value → H) :
    ReturnsInHanded {} Try.checked os 9 .any (Rows.linearScaleSpec.pre6 enc Try.prog Try.f9 [] false) (Rows.linearScaleSpec.post enc Try.prog Try.f9 false true false false) := by
  refine returnsInHanded_of_change (C := Try.checked) own started (by kernel_rfl) Try.func9
    (ChangeSpec.witness6 (enc := enc) (C := Try.checked) false ⟨#[], #[.int .u8 0, .slice none 0 0, .int .u8 0, .int .u16 0], []⟩ 8 (by kernel_rfl) (by kernel_rfl) (by kernel_rfl) (by kernel_rfl)) ?_
  intro W base args ds gs before hval0 hW _ _
  have hval : ∀ (j : Nat) t v, Try.f9.params[j]? = some t → args[j]? = some v → Value.okWide Try.prog W .any base t v := hval0
  have hW' := hW
  obtain ⟨p, q, hA0, hV, rfl, _, _⟩ := hW
  have hA : DataW.TrodAll enc Try.prog W 0 (fun _ => true) true Try.f9.params.toList args.toList ds p := hA0
  rw [Try.params9] at hA hval
  obtain ⟨v0, v1, v2, v3, d0, d1, d2, d3, p0, p1, p2, p3, rfl, rfl, rfl, h0, h1, h2, h3⟩ := trodAll_four hA
  obtain ⟨rfl, rfl⟩ := trodVars_none hV
  obtain ⟨a0, rfl, rfl, rfl, b0⟩ := open_int Try.underlying5 (hval 0 5 v0 rfl rfl) h0
  obtain ⟨A1, cap1, a1, rfl, b1, c1, e1⟩ := open_ws (hval 1 49 v1 rfl rfl) h1
  obtain ⟨a2, rfl, rfl, rfl, b2⟩ := open_int Try.underlying5 (hval 2 5 v2 rfl rfl) h2
  obtain ⟨a3, rfl, rfl, rfl, b3⟩ := open_int Try.underlying54 (hval 3 54 v3 rfl rfl) h3
  simp only [List.append_nil] at hW'
  refine (lscale_any a0 a1 _ A1 cap1 a2 a3 W (rngU8 b0) rfl b1 c1 e1 (rngU8 b2) (rngU16 b3)).mono fun e W' ⟨he, hch⟩ => ?_
  subst he
  exact ⟨_, rfl, _, _, _, [], _, [], hW', trodAll_mk1 (shut_bool Try.underlying4 _), args_again (by rw [Try.params9]; exact of_decide_eq_true (by kernel_rfl)) hA0 hch.below, rfl, hch.below.frame _, fun h => by cases h⟩

theorem linearScale_k0 : (Rows.linearScaleRow.wf (OpenSpec.ofChange Rows.linearScaleSpec)) = true := by kernel_rfl
theorem linearScale_k1 : (laidOutB Try.pinned.checked.prog) = true := by kernel_rfl
theorem linearScale_k2 : (mapsRowed Try.pinned.checked.prog) = true := by kernel_rfl
theorem linearScale_k3 : (Try.f9.params.all (Try.pinned.checked.prog.readableRec ·)) = true := by kernel_rfl
theorem linearScale_k4 : (namedTie Try.pinned.checked.prog Rows.linearScaleRow.named Rows.linearScaleSpec.vars) = true := by kernel_rfl
theorem linearScale_k5 : (Rows.linearScaleRow.stops == []) = true := by kernel_rfl
theorem linearScale_k6 : (Try.pinned.checked.prog.stops == []) = true := by kernel_rfl
theorem linearScale_k7 : (Rows.linearScaleRow.knobs == []) = true := by kernel_rfl
theorem linearScale_k8 : (Try.pinned.checked.prog.stopKnobs == []) = true := by kernel_rfl
theorem linearScale_k9 : (Rows.linearScaleRow.inPlace == Try.pinned.checked.prog.inPlace 9) = true := by kernel_rfl
theorem linearScale_k10 : (Rows.linearScaleRow.unfollowed == Try.pinned.checked.prog.unfollowed 9) = true := by kernel_rfl
theorem linearScale_k11 : (Rows.linearScaleRow.recurses == Try.pinned.checked.prog.recurses 9) = true := by kernel_rfl
theorem linearScale_k12 : (Rows.linearScaleRow.named == Try.pinned.checked.prog.varsNamed 9) = true := by kernel_rfl
theorem linearScale_k13 : (Rows.linearScaleRow.maps == (Try.f9.params.toList ++ Rows.linearScaleSpec.plain.varTypes Try.pinned.checked.prog).any (Try.pinned.checked.prog.mapsRec ·)) = true := by kernel_rfl
theorem linearScale_k14 : (Rows.linearScaleRow.ifaces == (Try.f9.params.toList ++ Rows.linearScaleSpec.plain.varTypes Try.pinned.checked.prog).any (Try.pinned.checked.prog.ifacesRec ·)) = true := by kernel_rfl
theorem linearScale_k15 : (Rows.linearScaleRow.mapsOut == Try.pinned.checked.prog.mapsAmong Try.f9.resultTypes.toList) = true := by kernel_rfl
theorem linearScale_k16 : (Rows.linearScaleRow.loops == (Try.f9.params.toList ++ Rows.linearScaleSpec.plain.varTypes Try.pinned.checked.prog).any (Try.pinned.checked.prog.loopsFrom ·)) = true := by kernel_rfl
theorem linearScale_k17 : (Rows.linearScaleRow.wideKeys == (Try.f9.params.toList ++ Rows.linearScaleSpec.plain.varTypes Try.pinned.checked.prog ++ Try.f9.resultTypes.toList).any (Try.pinned.checked.prog.wideKeysFrom ·)) = true := by kernel_rfl
theorem linearScale_k18 : (Rows.linearScaleSpec.vars.all (Try.pinned.checked.prog.varReadable ·)) = true := by kernel_rfl
theorem linearScale_k19 : (Try.f9.resultTypes.all (fun t => Try.pinned.checked.prog.readableRec t && decide (t < Try.pinned.checked.prog.types.size))) = true := by kernel_rfl
theorem linearScale_k20 : (Rows.linearScaleRow.ifacesOut == Try.f9.resultTypes.toList.any (Try.pinned.checked.prog.ifacesRec ·)) = true := by kernel_rfl
theorem linearScale_k21 : (Rows.linearScaleRow.loopsOut == Try.f9.resultTypes.toList.any (Try.pinned.checked.prog.loopsFrom ·)) = true := by kernel_rfl
theorem linearScale_k22 : (Rows.linearScaleRow.plainKeys == Try.pinned.checked.prog.plainKeys) = true := by kernel_rfl
theorem linearScale_k23 : (Rows.linearScaleRow.shortTexts.isNone) = true := by kernel_rfl
theorem linearScale_k24 : (Try.pinned.checked.prog.stopsHeard) = true := by kernel_rfl
theorem linearScale_k25 : (Try.pinned.checked.prog.mayEnter) = true := by kernel_rfl
theorem linearScale_k26 : (Rows.linearScaleRow.lifted == Try.pinned.checked.prog.liftsFinal) = true := by kernel_rfl
theorem linearScale_k27 : (Try.pinned.checked.prog.make == some Rows.linearScaleRow.make) = true := by kernel_rfl
theorem linearScale_k28 : (Rows.linearScaleRow.kinds == (if Rows.linearScaleRow.domain.isEmpty then [] else Try.f9.params.toList.map fun t => match Try.pinned.checked.prog.underlying t with | some (.int k) => some k | _ => none)) = true := by kernel_rfl
theorem linearScale_k29 : (Rows.linearScaleRow.pinned == Rows.linearScaleRow.pinnedBy) = true := by kernel_rfl
theorem linearScale_k30 : (Rows.linearScaleRow.veiled == (Try.f9.params.toList ++ Rows.linearScaleSpec.plain.varTypes Try.pinned.checked.prog ++ Try.f9.resultTypes.toList).any (Try.pinned.checked.prog.veiledRec ·)) = true := by kernel_rfl
theorem linearScale_k31 : (Rows.linearScaleRow.veiledFits Try.pinned.checked.prog Try.f9.params.toList (Try.f9.params.toList ++ Rows.linearScaleSpec.plain.varTypes Try.pinned.checked.prog ++ Try.f9.resultTypes.toList)) = true := by kernel_rfl
set_option maxRecDepth 100000 in
theorem linearScale_closed : joinedFacts Try.pinned.checked.prog 9 Try.f9 Rows.linearScaleSpec Rows.linearScaleRow = true := by
  simp only [joinedFacts, Bool.and_eq_true]
  exact ⟨⟨⟨⟨⟨⟨⟨⟨⟨⟨⟨⟨⟨⟨⟨⟨⟨⟨⟨⟨⟨⟨⟨⟨⟨⟨⟨⟨⟨⟨⟨linearScale_k0, linearScale_k1⟩, linearScale_k2⟩, linearScale_k3⟩, linearScale_k4⟩, linearScale_k5⟩, linearScale_k6⟩, linearScale_k7⟩, linearScale_k8⟩, linearScale_k9⟩, linearScale_k10⟩, linearScale_k11⟩, linearScale_k12⟩, linearScale_k13⟩, linearScale_k14⟩, linearScale_k15⟩, linearScale_k16⟩, linearScale_k17⟩, linearScale_k18⟩, linearScale_k19⟩, linearScale_k20⟩, linearScale_k21⟩, linearScale_k22⟩, linearScale_k23⟩, linearScale_k24⟩, linearScale_k25⟩, linearScale_k26⟩, linearScale_k27⟩, linearScale_k28⟩, linearScale_k29⟩, linearScale_k30⟩, linearScale_k31⟩

theorem linearScale_holds : Rows.LinearScaleSaid :=
  OpenClaim.holds_of_wide 9 Try.f9 rfl rfl rfl rfl rfl rfl rfl ⟨rfl, rfl, rfl, rfl, rfl⟩ rfl rfl rfl rfl rfl (by kernel_rfl) Try.func9 linearScale_closed
    (of_decide_eq_true (by kernel_rfl)) (by unfold Func.isWrapper; first | (rw [if_pos (by decide +kernel)]; kernel_rfl) | (rw [if_neg (by decide +kernel)]; exact ⟨rfl, rfl⟩))
    (fun os started H enc _ => linearScale_lifted os started H enc)

end Go.Proofs.Ytgdidakkfdcajaa
