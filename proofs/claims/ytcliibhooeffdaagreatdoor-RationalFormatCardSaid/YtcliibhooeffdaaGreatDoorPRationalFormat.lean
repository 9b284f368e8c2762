/-
  RationalFormat: for every input the law returns true: Format agrees with the definition and Parse inverts it. No condition; the package-level variables of Go's library that the row lists start as the program's text lays them (the tie is given).
-/
import Derived.Test.YtcliibhooeffdaaGreatDoorLA8
import Derived.Test.YtcliibhooeffdaaGreatDoorFrame2
namespace Go.Proofs.YtcliibhooeffdaaGreatDoor
open Go.RowKit Nd
open Go.ChangeShapes Go.WideShapes Go.ChangeAt
open Go.ChangeMaps (open_string shut_string)

theorem rationalFormat_pre {H : Type} (enc : TypeId × Value → H) (W : World) : Rows.rationalFormatSpec.preB enc Tryz.prog Tryz.f10 [] false W #[.agg #[.bool false, .string ByteArray.empty, .string ByteArray.empty]] 8 = true := by kernel_rfl
theorem rationalFormat_sized {H : Type} (enc : TypeId × Value → H) (W : World) : Rows.rationalFormatSpec.sizedB enc Tryz.prog Tryz.f10 false W #[.agg #[.bool false, .string ByteArray.empty, .string ByteArray.empty]] 8 = true := by kernel_rfl
set_option maxRecDepth 100000 in
theorem rationalFormat_lifted (os : Os) (started : os.Started) (H : Type) (enc : TypeId × Value → H) :
    ReturnsInHanded {} Tryz.checked os 10 .any (fun w args => (Rows.rationalFormatSpec.pre enc Tryz.prog Tryz.f10 [] false w args ∧ laidMetH Tryz.prog laid w) ∧ sizedMet enc Tryz.prog Tryz.f10 (OpenSpec.ofChange Rows.rationalFormatSpec) false w args)
      (Rows.rationalFormatSpec.post enc Tryz.prog Tryz.f10 false true false false) := by
  refine returnsInHanded_of_change_and (C := Tryz.checked) (X := fun w _ => laidMetH Tryz.prog laid w) (fun _ _ _ hh h => h.of_heap hh) own started (by kernel_rfl) Tryz.func10
    (ChangeSpec.witness_shaped (enc := enc) (C := Tryz.checked) (os := os) (X := fun w _ => laidMetH Tryz.prog laid w) false (World.laidAll Tryz.prog os laid) #[.agg #[.bool false, .string ByteArray.empty, .string ByteArray.empty]] 8 (World.laidAll_os _ _ _)
      (wit_shaped os _) (by kernel_rfl) (rationalFormat_pre enc _) (rationalFormat_sized enc _) (wit_laid os _)) ?_
  intro W base args ds gs before hval0 hW _ _ hL _
  have hval : ∀ (j : Nat) t v, Tryz.f10.params[j]? = some t → args[j]? = some v → Value.okWide Tryz.prog W .any base t v := hval0
  have hW' := hW
  obtain ⟨p, q, hA0, hV, rfl, _, _⟩ := hW
  have hA : DataW.TrodAll enc Tryz.prog W 0 (fun _ => true) true Tryz.f10.params.toList args.toList ds p := hA0
  rw [Tryz.params10] at hA hval
  obtain ⟨v0, d0, rfl, rfl, h0⟩ := trodAll_one hA
  obtain ⟨rfl, rfl⟩ := trodVars_none hV
  obtain ⟨a0, rfl, rfl, rfl, b0, c0⟩ := open_rat (hval 0 23 v0 rfl rfl) h0
  simp only [List.append_nil] at hW'
  refine (lformat2_any a0 W).mono fun e W' ⟨he, hch⟩ => ?_
  subst he
  exact ⟨_, rfl, _, _, _, [], [], [], hW', trodAll_mk1 (shut_bool Tryz.underlying4 _), trodAll_mk1 (shut_rat a0 b0 c0), rfl, hch.below.frame _, fun h => by cases h⟩

theorem rationalFormat_holds : Rows.RationalFormatSaid :=
  OpenClaim.holds_of_wide 10 Tryz.f10 rfl rfl rfl rfl rfl rfl rfl ⟨rfl, rfl, rfl, rfl, rfl⟩ rfl rfl rfl rfl rfl (by kernel_rfl) Tryz.func10 (by kernel_rfl)
    (of_decide_eq_true (by kernel_rfl)) (by unfold Func.isWrapper; first | (rw [if_pos (by decide +kernel)]; kernel_rfl) | (rw [if_neg (by decide +kernel)]; exact ⟨rfl, rfl⟩))
    (fun os started H enc _ => rationalFormat_lifted os started H enc)

theorem rationalFormat_card : Rows.RationalFormatCardSaid :=
  Claim7.holds_tied_plain_at .later [] [.data, .pinned] true (true, "34cc5d0e986beefe767233544c1b8a639b748d45cae211c9e837b581d25c1365") false rationalFormat_holds (fun _ h => by cases h) (by kernel_rfl) (fun _ h => by cases h) rationalFormat_row_tie rfl ⟨rfl, rfl⟩ (by kernel_rfl) rfl
    (fun f fn hf hfn => by
      obtain rfl : f = 10 := Option.some.inj ((show Tryz.prog.funcNamed Rows.rationalFormatRow.func = some 10 by kernel_rfl).symm.trans hf) |>.symm
      obtain rfl : fn = Tryz.f10 := (Option.some.inj (Tryz.func10.symm.trans hfn)).symm
      exact ⟨by kernel_rfl, fun j t ht => by
        rw [Tryz.params10] at ht
        have hm : t ∈ [23] := by simpa using Array.mem_of_getElem? ht
        have hall : ([23].all fun u => !Tryz.prog.wantsStandIn u) = true := by kernel_rfl
        exact (show Tryz.prog.wantsStandIn t = false by simpa using List.all_eq_true.1 hall t hm)⟩)
    (by kernel_rfl)
end Go.Proofs.YtcliibhooeffdaaGreatDoor
