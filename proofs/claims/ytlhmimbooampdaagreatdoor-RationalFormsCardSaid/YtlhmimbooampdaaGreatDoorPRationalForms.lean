/-
  RationalForms: for every input the law returns true: the three forms of a number in a string have the values that they should, and sequences of more than MaxDigits digits are refused. No condition; the package-level variables of Go's library that the row lists start as the program's text lays them (the tie is given).
-/
import Derived.Test.YtlhmimbooampdaaGreatDoorLA11
import Derived.Test.YtlhmimbooampdaaGreatDoorFrame2
namespace Go.Proofs.YtlhmimbooampdaaGreatDoor
open Go.RowKit Nd
open Go.ChangeShapes Go.WideShapes Go.ChangeAt
open Go.ChangeMaps (open_string shut_string)

theorem rationalForms_pre {H : Type} (enc : TypeId × Value → H) (W : World) : Rows.rationalFormsSpec.preB enc Tryz.prog Tryz.f4 [] false W #[.int .u32 0, .int .u32 0, .int .u16 0] 8 = true := by kernel_rfl
theorem rationalForms_sized {H : Type} (enc : TypeId × Value → H) (W : World) : Rows.rationalFormsSpec.sizedB enc Tryz.prog Tryz.f4 false W #[.int .u32 0, .int .u32 0, .int .u16 0] 8 = true := by kernel_rfl
set_option maxRecDepth 100000 in
theorem rationalForms_lifted (os : Os) (started : os.Started) (H : Type) (enc : TypeId × Value → H) :
    ReturnsInHanded {} Tryz.checked os 4 .any (fun w args => (Rows.rationalFormsSpec.pre enc Tryz.prog Tryz.f4 [] false w args ∧ laidMetH Tryz.prog laid w) ∧ sizedMet enc Tryz.prog Tryz.f4 (OpenSpec.ofChange Rows.rationalFormsSpec) false w args)
      (Rows.rationalFormsSpec.post enc Tryz.prog Tryz.f4 false true false false) := by
  refine returnsInHanded_of_change_and (C := Tryz.checked) (X := fun w _ => laidMetH Tryz.prog laid w) (fun _ _ _ hh h => h.of_heap hh) own started (by kernel_rfl) Tryz.func4
    (ChangeSpec.witness_shaped (enc := enc) (C := Tryz.checked) (os := os) (X := fun w _ => laidMetH Tryz.prog laid w) false (World.laidAll Tryz.prog os laid) #[.int .u32 0, .int .u32 0, .int .u16 0] 8 (World.laidAll_os _ _ _)
      (wit_shaped os _) (by kernel_rfl) (rationalForms_pre enc _) (rationalForms_sized enc _) (wit_laid os _)) ?_
  intro W base args ds gs before hval0 hW _ _ hL _
  have hval : ∀ (j : Nat) t v, Tryz.f4.params[j]? = some t → args[j]? = some v → Value.okWide Tryz.prog W .any base t v := hval0
  have hW' := hW
  obtain ⟨p, q, hA0, hV, rfl, _, _⟩ := hW
  have hA : DataW.TrodAll enc Tryz.prog W 0 (fun _ => true) true Tryz.f4.params.toList args.toList ds p := hA0
  rw [Tryz.params4] at hA hval
  obtain ⟨v0, v1, v2, d0, d1, d2, p0, p1, p2, rfl, rfl, rfl, h0, h1, h2⟩ := trodAll_three hA
  obtain ⟨rfl, rfl⟩ := trodVars_none hV
  obtain ⟨a0, rfl, rfl, rfl, b0⟩ := open_int Tryz.underlying30 (hval 0 30 v0 rfl rfl) h0
  obtain ⟨a1, rfl, rfl, rfl, b1⟩ := open_int Tryz.underlying30 (hval 1 30 v1 rfl rfl) h1
  obtain ⟨a2, rfl, rfl, rfl, b2⟩ := open_int Tryz.underlying31 (hval 2 31 v2 rfl rfl) h2
  simp only [List.append_nil] at hW'
  refine (lforms_any a0 a1 a2 W b0 b1 b2).mono fun e W' ⟨he, hch⟩ => ?_
  subst he
  exact ⟨_, rfl, _, _, _, [], [], [], hW', trodAll_mk1 (shut_bool Tryz.underlying4 _), trodAll_mk3 (shut_int Tryz.underlying30 b0) (shut_int Tryz.underlying30 b1) (shut_int Tryz.underlying31 b2), rfl, hch.below.frame _, fun h => by cases h⟩

theorem rationalForms_holds : Rows.RationalFormsSaid :=
  OpenClaim.holds_of_wide 4 Tryz.f4 rfl rfl rfl rfl rfl rfl rfl ⟨rfl, rfl, rfl, rfl, rfl⟩ rfl rfl rfl rfl rfl (by kernel_rfl) Tryz.func4 (by kernel_rfl)
    (of_decide_eq_true (by kernel_rfl)) (by unfold Func.isWrapper; first | (rw [if_pos (by decide +kernel)]; kernel_rfl) | (rw [if_neg (by decide +kernel)]; exact ⟨rfl, rfl⟩))
    (fun os started H enc _ => rationalForms_lifted os started H enc)

theorem rationalForms_card : Rows.RationalFormsCardSaid :=
  Claim7.holds_tied_plain_at .later [] [.data, .pinned] true (true, "d5fc8b0a091cdada0fb83d334354e99fbdf7b9981efb58ba15fe368e10064b70") false rationalForms_holds (fun _ h => by cases h) (by kernel_rfl) (fun _ h => by cases h) rationalForms_row_tie rfl ⟨rfl, rfl⟩ (by kernel_rfl) rfl
    (fun f fn hf hfn => by
      obtain rfl : f = 4 := Option.some.inj ((show Tryz.prog.funcNamed Rows.rationalFormsRow.func = some 4 by kernel_rfl).symm.trans hf) |>.symm
      obtain rfl : fn = Tryz.f4 := (Option.some.inj (Tryz.func4.symm.trans hfn)).symm
      exact ⟨by kernel_rfl, fun j t ht => by
        rw [Tryz.params4] at ht
        have hm : t ∈ [30, 30, 31] := by simpa using Array.mem_of_getElem? ht
        have hall : ([30, 30, 31].all fun u => !Tryz.prog.wantsStandIn u) = true := by kernel_rfl
        exact (show Tryz.prog.wantsStandIn t = false by simpa using List.all_eq_true.1 hall t hm)⟩)
    (by kernel_rfl)
end Go.Proofs.YtlhmimbooampdaaGreatDoor
