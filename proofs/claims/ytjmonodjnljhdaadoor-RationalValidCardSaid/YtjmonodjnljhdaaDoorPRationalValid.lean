/-
  RationalValid: for every input the law returns true: Valid agrees with the definition for arbitrary fields. No condition; the package-level variables of Go's library that the row lists start as the program's text lays them (the tie is given).
-/
import Derived.Test.YtjmonodjnljhdaaDoorQ13
import Derived.Test.YtjmonodjnljhdaaDoorFrame2
namespace Go.Proofs.YtjmonodjnljhdaaDoor
open Go.RowKit Nd
open Go.ChangeShapes Go.WideShapes Go.ChangeAt
open Go.ChangeMaps (open_string shut_string)

theorem rationalValid_pre {H : Type} (enc : TypeId × Value → H) (W : World) : Rows.rationalValidSpec.preB enc Tryd.prog Tryd.f5 [] false W #[.agg #[.bool false, .string ByteArray.empty, .string ByteArray.empty]] 8 = true := by kernel_rfl
theorem rationalValid_sized {H : Type} (enc : TypeId × Value → H) (W : World) : Rows.rationalValidSpec.sizedB enc Tryd.prog Tryd.f5 false W #[.agg #[.bool false, .string ByteArray.empty, .string ByteArray.empty]] 8 = true := by kernel_rfl
set_option maxRecDepth 100000 in
theorem rationalValid_lifted (os : Os) (started : os.Started) (H : Type) (enc : TypeId × Value → H) :
    ReturnsInHanded {} Tryd.checked os 5 .any (fun w args => (Rows.rationalValidSpec.pre enc Tryd.prog Tryd.f5 [] false w args ∧ laidMetH Tryd.prog laid w) ∧ sizedMet enc Tryd.prog Tryd.f5 (OpenSpec.ofChange Rows.rationalValidSpec) false w args)
      (Rows.rationalValidSpec.post enc Tryd.prog Tryd.f5 false true false false) := by
  refine returnsInHanded_of_change_and (C := Tryd.checked) (X := fun w _ => laidMetH Tryd.prog laid w) (fun _ _ _ hh h => h.of_heap hh) own started (by kernel_rfl) Tryd.func5
    (ChangeSpec.witness_shaped (enc := enc) (C := Tryd.checked) (os := os) (X := fun w _ => laidMetH Tryd.prog laid w) false (World.laidAll Tryd.prog os laid) #[.agg #[.bool false, .string ByteArray.empty, .string ByteArray.empty]] 8 (World.laidAll_os _ _ _)
      (wit_shaped os _) (by kernel_rfl) (rationalValid_pre enc _) (rationalValid_sized enc _) (wit_laid os _)) ?_
  intro W base args ds gs before hval0 hW _ _ hL _
  have hval : ∀ (j : Nat) t v, Tryd.f5.params[j]? = some t → args[j]? = some v → Value.okWide Tryd.prog W .any base t v := hval0
  have hW' := hW
  obtain ⟨p, q, hA0, hV, rfl, _, _⟩ := hW
  have hA : DataW.TrodAll enc Tryd.prog W 0 (fun _ => true) true Tryd.f5.params.toList args.toList ds p := hA0
  rw [Tryd.params5] at hA hval
  obtain ⟨v0, d0, rfl, rfl, h0⟩ := trodAll_one hA
  obtain ⟨rfl, rfl⟩ := trodVars_none hV
  obtain ⟨a0, rfl, rfl, rfl, b0, c0⟩ := open_rat (hval 0 29 v0 rfl rfl) h0
  simp only [List.append_nil] at hW'
  refine (lvalid_any a0 W).mono fun e W' ⟨he, hch⟩ => ?_
  subst he
  exact ⟨_, rfl, _, _, _, [], [], [], hW', trodAll_mk1 (shut_bool Tryd.underlying4 _), trodAll_mk1 (shut_rat a0 b0 c0), rfl, hch.below.frame _, fun h => by cases h⟩

theorem rationalValid_holds : Rows.RationalValidSaid :=
  OpenClaim.holds_of_wide 5 Tryd.f5 rfl rfl rfl rfl rfl rfl rfl ⟨rfl, rfl, rfl, rfl, rfl⟩ rfl rfl rfl rfl rfl (by kernel_rfl) Tryd.func5 (by kernel_rfl)
    (of_decide_eq_true (by kernel_rfl)) (by unfold Func.isWrapper; first | (rw [if_pos (by decide +kernel)]; kernel_rfl) | (rw [if_neg (by decide +kernel)]; exact ⟨rfl, rfl⟩))
    (fun os started H enc _ => rationalValid_lifted os started H enc)

theorem rationalValid_card : Rows.RationalValidCardSaid :=
  Claim7.holds_tied_plain_at .later [] [.data, .pinned] true (true, "f2e377b600c6341febe1e1da9daad75950a9ca3bd4fd48219017b3341cf17679") false rationalValid_holds (fun _ h => by cases h) (by kernel_rfl) (fun _ h => by cases h) rationalValid_row_tie rfl ⟨rfl, rfl⟩ (by kernel_rfl) rfl
    (fun f fn hf hfn => by
      obtain rfl : f = 5 := Option.some.inj ((show Tryd.prog.funcNamed Rows.rationalValidRow.func = some 5 by kernel_rfl).symm.trans hf) |>.symm
      obtain rfl : fn = Tryd.f5 := (Option.some.inj (Tryd.func5.symm.trans hfn)).symm
      exact ⟨by kernel_rfl, fun j t ht => by
        rw [Tryd.params5] at ht
        have hm : t ∈ [29] := by simpa using Array.mem_of_getElem? ht
        have hall : ([29].all fun u => !Tryd.prog.wantsStandIn u) = true := by kernel_rfl
        exact (show Tryd.prog.wantsStandIn t = false by simpa using List.all_eq_true.1 hall t hm)⟩)
    (by kernel_rfl)
end Go.Proofs.YtjmonodjnljhdaaDoor
