/-
  PartyFixpoint: for every input the law returns true: a company is controlled exactly if more than half of its votes are held by the owner and the companies that it controls. No condition.
-/
import Derived.Test.YtgdpcpbmjgaliaaPL7
import Derived.Test.YtgdpcpbmjgaliaaFrameB
namespace Go.Proofs.Ytgdpcpbmjgaliaa
open Go.RowKit Nd
open Go.ChangeShapes Go.WideShapes Go.ChangeAt
open Go.ChangeMaps (open_string shut_string)

set_option maxRecDepth 100000 in
theorem partyFixpoint_lifted (os : Os) (started : os.Started) (H : Type) (enc : TypeId × Value → H) :
    ReturnsInHanded {} Try.checked os 8 .any (Rows.partyFixpointSpec.pre6 enc Try.prog Try.f8 [] false) (Rows.partyFixpointSpec.post enc Try.prog Try.f8 false true false false) := by
  refine returnsInHanded_of_change (C := Try.checked) own started (by kernel_rfl) Try.func8
    (ChangeSpec.witness6 (enc := enc) (C := Try.checked) false ⟨#[], #[.int .u8 0, .int .u16 0, .slice none 0 0, .int .u8 0], []⟩ 8 (by kernel_rfl) (by kernel_rfl) (by kernel_rfl) (by kernel_rfl)) ?_
  intro W base args ds gs before hval0 hW _ _
  have hval : ∀ (j : Nat) t v, Try.f8.params[j]? = some t → args[j]? = some v → Value.okWide Try.prog W .any base t v := hval0
  have hW' := hW
  obtain ⟨p, q, hA0, hV, rfl, _, _⟩ := hW
  have hA : DataW.TrodAll enc Try.prog W 0 (fun _ => true) true Try.f8.params.toList args.toList ds p := hA0
  rw [Try.params8] at hA hval
  obtain ⟨v0, v1, v2, v3, d0, d1, d2, d3, p0, p1, p2, p3, rfl, rfl, rfl, h0, h1, h2, h3⟩ := trodAll_four hA
  obtain ⟨rfl, rfl⟩ := trodVars_none hV
  obtain ⟨a0, rfl, rfl, rfl, b0⟩ := open_int Try.underlying5 (hval 0 5 v0 rfl rfl) h0
  obtain ⟨a1, rfl, rfl, rfl, b1⟩ := open_int Try.underlying50 (hval 1 50 v1 rfl rfl) h1
  obtain ⟨A2, cap2, a2, rfl, b2, c2, e2, g2⟩ := open_t3s (hval 2 51 v2 rfl rfl) h2
  obtain ⟨a3, rfl, rfl, rfl, b3⟩ := open_int Try.underlying5 (hval 3 5 v3 rfl rfl) h3
  simp only [List.append_nil] at hW'
  refine (lpfix_any a0 a1 a2 a3 _ A2 cap2 W (rngU8 b0) (rngU16 b1) rfl (Nat.le_trans b2 c2) g2 e2 (rngU8 b3)).mono fun e W' ⟨he, hch⟩ => ?_
  subst he
  exact ⟨_, rfl, _, _, _, [], _, [], hW', trodAll_mk1 (shut_bool Try.underlying4 _), args_again (by rw [Try.params8]; exact of_decide_eq_true (by kernel_rfl)) hA0 hch.below, rfl, hch.below.frame _, fun h => by cases h⟩

theorem partyFixpoint_k0 : (Rows.partyFixpointRow.wf (OpenSpec.ofChange Rows.partyFixpointSpec)) = true := by kernel_rfl
theorem partyFixpoint_k1 : (laidOutB Try.pinned.checked.prog) = true := by kernel_rfl
theorem partyFixpoint_k2 : (mapsRowed Try.pinned.checked.prog) = true := by kernel_rfl
theorem partyFixpoint_k3 : (Try.f8.params.all (Try.pinned.checked.prog.readableRec ·)) = true := by kernel_rfl
theorem partyFixpoint_k4 : (namedTie Try.pinned.checked.prog Rows.partyFixpointRow.named Rows.partyFixpointSpec.vars) = true := by kernel_rfl
theorem partyFixpoint_k5 : (Rows.partyFixpointRow.stops == []) = true := by kernel_rfl
theorem partyFixpoint_k6 : (Try.pinned.checked.prog.stops == []) = true := by kernel_rfl
theorem partyFixpoint_k7 : (Rows.partyFixpointRow.knobs == []) = true := by kernel_rfl
theorem partyFixpoint_k8 : (Try.pinned.checked.prog.stopKnobs == []) = true := by kernel_rfl
theorem partyFixpoint_k9 : (Rows.partyFixpointRow.inPlace == Try.pinned.checked.prog.inPlace 8) = true := by kernel_rfl
theorem partyFixpoint_k10 : (Rows.partyFixpointRow.unfollowed == Try.pinned.checked.prog.unfollowed 8) = true := by kernel_rfl
theorem partyFixpoint_k11 : (Rows.partyFixpointRow.recurses == Try.pinned.checked.prog.recurses 8) = true := by kernel_rfl
theorem partyFixpoint_k12 : (Rows.partyFixpointRow.named == Try.pinned.checked.prog.varsNamed 8) = true := by kernel_rfl
theorem partyFixpoint_k13 : (Rows.partyFixpointRow.maps == (Try.f8.params.toList ++ Rows.partyFixpointSpec.plain.varTypes Try.pinned.checked.prog).any (Try.pinned.checked.prog.mapsRec ·)) = true := by kernel_rfl
theorem partyFixpoint_k14 : (Rows.partyFixpointRow.ifaces == (Try.f8.params.toList ++ Rows.partyFixpointSpec.plain.varTypes Try.pinned.checked.prog).any (Try.pinned.checked.prog.ifacesRec ·)) = true := by kernel_rfl
theorem partyFixpoint_k15 : (Rows.partyFixpointRow.mapsOut == Try.pinned.checked.prog.mapsAmong Try.f8.resultTypes.toList) = true := by kernel_rfl
theorem partyFixpoint_k16 : (Rows.partyFixpointRow.loops == (Try.f8.params.toList ++ Rows.partyFixpointSpec.plain.varTypes Try.pinned.checked.prog).any (Try.pinned.checked.prog.loopsFrom ·)) = true := by kernel_rfl
theorem partyFixpoint_k17 : (Rows.partyFixpointRow.wideKeys == (Try.f8.params.toList ++ Rows.partyFixpointSpec.plain.varTypes Try.pinned.checked.prog ++ Try.f8.resultTypes.toList).any (Try.pinned.checked.prog.wideKeysFrom ·)) = true := by kernel_rfl
theorem partyFixpoint_k18 : (Rows.partyFixpointSpec.vars.all (Try.pinned.checked.prog.varReadable ·)) = true := by kernel_rfl
theorem partyFixpoint_k19 : (Try.f8.resultTypes.all (fun t => Try.pinned.checked.prog.readableRec t && decide (t < Try.pinned.checked.prog.types.size))) = true := by kernel_rfl
theorem partyFixpoint_k20 : (Rows.partyFixpointRow.ifacesOut == Try.f8.resultTypes.toList.any (Try.pinned.checked.prog.ifacesRec ·)) = true := by kernel_rfl
theorem partyFixpoint_k21 : (Rows.partyFixpointRow.loopsOut == Try.f8.resultTypes.toList.any (Try.pinned.checked.prog.loopsFrom ·)) = true := by kernel_rfl
theorem partyFixpoint_k22 : (Rows.partyFixpointRow.plainKeys == Try.pinned.checked.prog.plainKeys) = true := by kernel_rfl
theorem partyFixpoint_k23 : (Rows.partyFixpointRow.shortTexts.isNone) = true := by kernel_rfl
theorem partyFixpoint_k24 : (Try.pinned.checked.prog.stopsHeard) = true := by kernel_rfl
theorem partyFixpoint_k25 : (Try.pinned.checked.prog.mayEnter) = true := by kernel_rfl
theorem partyFixpoint_k26 : (Rows.partyFixpointRow.lifted == Try.pinned.checked.prog.liftsFinal) = true := by kernel_rfl
theorem partyFixpoint_k27 : (Try.pinned.checked.prog.make == some Rows.partyFixpointRow.make) = true := by kernel_rfl
theorem partyFixpoint_k28 : (Rows.partyFixpointRow.kinds == (if Rows.partyFixpointRow.domain.isEmpty then [] else Try.f8.params.toList.map fun t => match Try.pinned.checked.prog.underlying t with | some (.int k) => some k | _ => none)) = true := by kernel_rfl
theorem partyFixpoint_k29 : (Rows.partyFixpointRow.pinned == Rows.partyFixpointRow.pinnedBy) = true := by kernel_rfl
theorem partyFixpoint_k30 : (Rows.partyFixpointRow.veiled == (Try.f8.params.toList ++ Rows.partyFixpointSpec.plain.varTypes Try.pinned.checked.prog ++ Try.f8.resultTypes.toList).any (Try.pinned.checked.prog.veiledRec ·)) = true := by kernel_rfl
theorem partyFixpoint_k31 : (Rows.partyFixpointRow.veiledFits Try.pinned.checked.prog Try.f8.params.toList (Try.f8.params.toList ++ Rows.partyFixpointSpec.plain.varTypes Try.pinned.checked.prog ++ Try.f8.resultTypes.toList)) = true := by kernel_rfl
set_option maxRecDepth 100000 in
theorem partyFixpoint_closed : joinedFacts Try.pinned.checked.prog 8 Try.f8 Rows.partyFixpointSpec Rows.partyFixpointRow = true := by
  simp only [joinedFacts, Bool.and_eq_true]
  exact ⟨⟨⟨⟨⟨⟨⟨⟨⟨⟨⟨⟨⟨⟨⟨⟨⟨⟨⟨⟨⟨⟨⟨⟨⟨⟨⟨⟨⟨⟨⟨partyFixpoint_k0, partyFixpoint_k1⟩, partyFixpoint_k2⟩, partyFixpoint_k3⟩, partyFixpoint_k4⟩, partyFixpoint_k5⟩, partyFixpoint_k6⟩, partyFixpoint_k7⟩, partyFixpoint_k8⟩, partyFixpoint_k9⟩, partyFixpoint_k10⟩, partyFixpoint_k11⟩, partyFixpoint_k12⟩, partyFixpoint_k13⟩, partyFixpoint_k14⟩, partyFixpoint_k15⟩, partyFixpoint_k16⟩, partyFixpoint_k17⟩, partyFixpoint_k18⟩, partyFixpoint_k19⟩, partyFixpoint_k20⟩, partyFixpoint_k21⟩, partyFixpoint_k22⟩, partyFixpoint_k23⟩, partyFixpoint_k24⟩, partyFixpoint_k25⟩, partyFixpoint_k26⟩, partyFixpoint_k27⟩, partyFixpoint_k28⟩, partyFixpoint_k29⟩, partyFixpoint_k30⟩, partyFixpoint_k31⟩

theorem partyFixpoint_holds : Rows.PartyFixpointSaid :=
  OpenClaim.holds_of_wide 8 Try.f8 rfl rfl rfl rfl rfl rfl rfl ⟨rfl, rfl, rfl, rfl, rfl⟩ rfl rfl rfl rfl rfl (by kernel_rfl) Try.func8 partyFixpoint_closed
    (of_decide_eq_true (by kernel_rfl)) (by unfold Func.isWrapper; first | (rw [if_pos (by decide +kernel)]; kernel_rfl) | (rw [if_neg (by decide +kernel)]; exact ⟨rfl, rfl⟩))
    (fun os started H enc _ => partyFixpoint_lifted os started H enc)

end Go.Proofs.Ytgdpcpbmjgaliaa
