/-
  CalendarSplit: for every input the law returns true: counting is additive and does not depend on the order of the holidays. No condition.
-/
import Derived.Test.YtfmbekdhkilflaaC12
import Derived.Test.YtfmbekdhkilflaaCF
namespace Go.Proofs.Ytfmbekdhkilflaa
open Go.RowKit
open Go.ChangeShapes Go.WideShapes Go.ChangeAt
open Go.ChangeMaps (open_string shut_string)

set_option maxRecDepth 100000 in
theorem calendarSplit_lifted (os : Os) (started : os.Started) (H : Type) (enc : TypeId × Value → H) :
    ReturnsInHanded {} Try.checked os 11 .any (Rows.calendarSplitSpec.pre6 enc Try.prog Try.f11 [] false) (Rows.calendarSplitSpec.post enc Try.prog Try.f11 false true false false) := by
  refine returnsInHanded_of_change (C := Try.checked) own started (by kernel_rfl) Try.func11
    (ChangeSpec.witness6 (enc := enc) (C := Try.checked) false ⟨#[], #[.int .u8 0, .int .u8 0, .int .u8 0, .slice none 0 0], []⟩ 8 (by kernel_rfl) (by kernel_rfl) (by kernel_rfl) (by kernel_rfl)) ?_
  intro W base args ds gs before hval0 hW _ _
  have hval : ∀ (j : Nat) t v, Try.f11.params[j]? = some t → args[j]? = some v → Value.okWide Try.prog W .any base t v := hval0
  have hW' := hW
  obtain ⟨p, q, hA0, hV, rfl, _, _⟩ := hW
  have hA : DataW.TrodAll enc Try.prog W 0 (fun _ => true) true Try.f11.params.toList args.toList ds p := hA0
  rw [Try.params11] at hA hval
  obtain ⟨v0, v1, v2, v3, d0, d1, d2, d3, p0, p1, p2, p3, rfl, rfl, rfl, h0, h1, h2, h3⟩ := trodAll_four hA
  obtain ⟨rfl, rfl⟩ := trodVars_none hV
  obtain ⟨a0, rfl, rfl, rfl, b0⟩ := open_int Try.underlying5 (hval 0 5 v0 rfl rfl) h0
  obtain ⟨a1, rfl, rfl, rfl, b1⟩ := open_int Try.underlying5 (hval 1 5 v1 rfl rfl) h1
  obtain ⟨a2, rfl, rfl, rfl, b2⟩ := open_int Try.underlying5 (hval 2 5 v2 rfl rfl) h2
  obtain ⟨A3, cap3, a3, rfl, b3, c3, e3⟩ := open_us (hval 3 37 v3 rfl rfl) h3
  simp only [List.append_nil] at hW'
  refine (lsplit_any a0 a1 a2 a3 _ A3 cap3 W (u8rng b0) (u8rng b1) (u8rng b2) rfl b3 c3 e3).mono fun e W' ⟨he, hch⟩ => ?_
  subst he
  exact ⟨_, rfl, _, _, _, [], _, [], hW', trodAll_mk1 (shut_bool Try.underlying4 _), args_again (by rw [Try.params11]; exact of_decide_eq_true (by kernel_rfl)) hA0 hch.below, rfl, hch.below.frame _, fun h => by cases h⟩

theorem calendarSplit_k0 : (Rows.calendarSplitRow.wf (OpenSpec.ofChange Rows.calendarSplitSpec)) = true := by kernel_rfl
theorem calendarSplit_k1 : (laidOutB Try.pinned.checked.prog) = true := by kernel_rfl
theorem calendarSplit_k2 : (mapsRowed Try.pinned.checked.prog) = true := by kernel_rfl
theorem calendarSplit_k3 : (Try.f11.params.all (Try.pinned.checked.prog.readableRec ·)) = true := by kernel_rfl
theorem calendarSplit_k4 : (namedTie Try.pinned.checked.prog Rows.calendarSplitRow.named Rows.calendarSplitSpec.vars) = true := by kernel_rfl
theorem calendarSplit_k5 : (Rows.calendarSplitRow.stops == []) = true := by kernel_rfl
theorem calendarSplit_k6 : (Try.pinned.checked.prog.stops == []) = true := by kernel_rfl
theorem calendarSplit_k7 : (Rows.calendarSplitRow.knobs == []) = true := by kernel_rfl
theorem calendarSplit_k8 : (Try.pinned.checked.prog.stopKnobs == []) = true := by kernel_rfl
theorem calendarSplit_k9 : (Rows.calendarSplitRow.inPlace == Try.pinned.checked.prog.inPlace 11) = true := by kernel_rfl
theorem calendarSplit_k10 : (Rows.calendarSplitRow.unfollowed == Try.pinned.checked.prog.unfollowed 11) = true := by kernel_rfl
theorem calendarSplit_k11 : (Rows.calendarSplitRow.recurses == Try.pinned.checked.prog.recurses 11) = true := by kernel_rfl
theorem calendarSplit_k12 : (Rows.calendarSplitRow.named == Try.pinned.checked.prog.varsNamed 11) = true := by kernel_rfl
theorem calendarSplit_k13 : (Rows.calendarSplitRow.maps == (Try.f11.params.toList ++ Rows.calendarSplitSpec.plain.varTypes Try.pinned.checked.prog).any (Try.pinned.checked.prog.mapsRec ·)) = true := by kernel_rfl
theorem calendarSplit_k14 : (Rows.calendarSplitRow.ifaces == (Try.f11.params.toList ++ Rows.calendarSplitSpec.plain.varTypes Try.pinned.checked.prog).any (Try.pinned.checked.prog.ifacesRec ·)) = true := by kernel_rfl
theorem calendarSplit_k15 : (Rows.calendarSplitRow.mapsOut == Try.pinned.checked.prog.mapsAmong Try.f11.resultTypes.toList) = true := by kernel_rfl
theorem calendarSplit_k16 : (Rows.calendarSplitRow.loops == (Try.f11.params.toList ++ Rows.calendarSplitSpec.plain.varTypes Try.pinned.checked.prog).any (Try.pinned.checked.prog.loopsFrom ·)) = true := by kernel_rfl
theorem calendarSplit_k17 : (Rows.calendarSplitRow.wideKeys == (Try.f11.params.toList ++ Rows.calendarSplitSpec.plain.varTypes Try.pinned.checked.prog ++ Try.f11.resultTypes.toList).any (Try.pinned.checked.prog.wideKeysFrom ·)) = true := by kernel_rfl
theorem calendarSplit_k18 : (Rows.calendarSplitSpec.vars.all (Try.pinned.checked.prog.varReadable ·)) = true := by kernel_rfl
theorem calendarSplit_k19 : (Try.f11.resultTypes.all (fun t => Try.pinned.checked.prog.readableRec t && decide (t < Try.pinned.checked.prog.types.size))) = true := by kernel_rfl
theorem calendarSplit_k20 : (Rows.calendarSplitRow.ifacesOut == Try.f11.resultTypes.toList.any (Try.pinned.checked.prog.ifacesRec ·)) = true := by kernel_rfl
theorem calendarSplit_k21 : (Rows.calendarSplitRow.loopsOut == Try.f11.resultTypes.toList.any (Try.pinned.checked.prog.loopsFrom ·)) = true := by kernel_rfl
theorem calendarSplit_k22 : (Rows.calendarSplitRow.plainKeys == Try.pinned.checked.prog.plainKeys) = true := by kernel_rfl
theorem calendarSplit_k23 : (Rows.calendarSplitRow.shortTexts.isNone) = true := by kernel_rfl
theorem calendarSplit_k24 : (Try.pinned.checked.prog.stopsHeard) = true := by kernel_rfl
theorem calendarSplit_k25 : (Try.pinned.checked.prog.mayEnter) = true := by kernel_rfl
theorem calendarSplit_k26 : (Rows.calendarSplitRow.lifted == Try.pinned.checked.prog.liftsFinal) = true := by kernel_rfl
theorem calendarSplit_k27 : (Try.pinned.checked.prog.make == some Rows.calendarSplitRow.make) = true := by kernel_rfl
theorem calendarSplit_k28 : (Rows.calendarSplitRow.kinds == (if Rows.calendarSplitRow.domain.isEmpty then [] else Try.f11.params.toList.map fun t => match Try.pinned.checked.prog.underlying t with | some (.int k) => some k | _ => none)) = true := by kernel_rfl
theorem calendarSplit_k29 : (Rows.calendarSplitRow.pinned == Rows.calendarSplitRow.pinnedBy) = true := by kernel_rfl
theorem calendarSplit_k30 : (Rows.calendarSplitRow.veiled == (Try.f11.params.toList ++ Rows.calendarSplitSpec.plain.varTypes Try.pinned.checked.prog ++ Try.f11.resultTypes.toList).any (Try.pinned.checked.prog.veiledRec ·)) = true := by kernel_rfl
theorem calendarSplit_k31 : (Rows.calendarSplitRow.veiledFits Try.pinned.checked.prog Try.f11.params.toList (Try.f11.params.toList ++ Rows.calendarSplitSpec.plain.varTypes Try.pinned.checked.prog ++ Try.f11.resultTypes.toList)) = true := by kernel_rfl
set_option maxRecDepth 100000 in
theorem calendarSplit_closed : joinedFacts Try.pinned.checked.prog 11 Try.f11 Rows.calendarSplitSpec Rows.calendarSplitRow = true := by
  simp only [joinedFacts, Bool.and_eq_true]
  exact ⟨⟨⟨⟨⟨⟨⟨⟨⟨⟨⟨⟨⟨⟨⟨⟨⟨⟨⟨⟨⟨⟨⟨⟨⟨⟨⟨⟨⟨⟨⟨calendarSplit_k0, calendarSplit_k1⟩, calendarSplit_k2⟩, calendarSplit_k3⟩, calendarSplit_k4⟩, calendarSplit_k5⟩, calendarSplit_k6⟩, calendarSplit_k7⟩, calendarSplit_k8⟩, calendarSplit_k9⟩, calendarSplit_k10⟩, calendarSplit_k11⟩, calendarSplit_k12⟩, calendarSplit_k13⟩, calendarSplit_k14⟩, calendarSplit_k15⟩, calendarSplit_k16⟩, calendarSplit_k17⟩, calendarSplit_k18⟩, calendarSplit_k19⟩, calendarSplit_k20⟩, calendarSplit_k21⟩, calendarSplit_k22⟩, calendarSplit_k23⟩, calendarSplit_k24⟩, calendarSplit_k25⟩, calendarSplit_k26⟩, calendarSplit_k27⟩, calendarSplit_k28⟩, calendarSplit_k29⟩, calendarSplit_k30⟩, calendarSplit_k31⟩

theorem calendarSplit_holds : Rows.CalendarSplitSaid :=
  OpenClaim.holds_of_wide 11 Try.f11 rfl rfl rfl rfl rfl rfl rfl ⟨rfl, rfl, rfl, rfl, rfl⟩ rfl rfl rfl rfl rfl (by kernel_rfl) Try.func11 calendarSplit_closed
    (of_decide_eq_true (by kernel_rfl)) (by unfold Func.isWrapper; first | (rw [if_pos (by decide +kernel)]; kernel_rfl) | (rw [if_neg (by decide +kernel)]; exact ⟨rfl, rfl⟩))
    (fun os started H enc _ => calendarSplit_lifted os started H enc)

end Go.Proofs.Ytfmbekdhkilflaa
