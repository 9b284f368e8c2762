/-
  NaturalLong: for every input the law returns true: Parse accepts exactly up to 2000 digits. No condition; the package-level variables of Go's library that the row lists start as the program's text lays them (the tie is given).
-/
import Derived.Test.YtnemodboceenfaaDoorL4
import Derived.Test.YtnemodboceenfaaDoorFrame
namespace Go.Proofs.YtnemodboceenfaaDoor
open Go.RowKit Nd
open Go.ChangeShapes Go.WideShapes Go.ChangeAt
open Go.ChangeMaps (open_string shut_string)

theorem naturalLong_pre {H : Type} (enc : TypeId × Value → H) (W : World) : Rows.naturalLongSpec.preB enc Tryd.prog Tryd.f11 [] false W #[.int .u16 0, .int .u8 0] 8 = true := by kernel_rfl
theorem naturalLong_sized {H : Type} (enc : TypeId × Value → H) (W : World) : Rows.naturalLongSpec.sizedB enc Tryd.prog Tryd.f11 false W #[.int .u16 0, .int .u8 0] 8 = true := by kernel_rfl
set_option maxRecDepth 100000 in
theorem naturalLong_lifted (os : Os) (started : os.Started) (H : Type) (enc : TypeId × Value → H) :
    ReturnsInHanded {} Tryd.checked os 11 .any (fun w args => (Rows.naturalLongSpec.pre enc Tryd.prog Tryd.f11 [] false w args ∧ laidMetH Tryd.prog laid w) ∧ sizedMet enc Tryd.prog Tryd.f11 (OpenSpec.ofChange Rows.naturalLongSpec) false w args)
      (Rows.naturalLongSpec.post enc Tryd.prog Tryd.f11 false true false false) := by
  refine returnsInHanded_of_change_and (C := Tryd.checked) (X := fun w _ => laidMetH Tryd.prog laid w) (fun _ _ _ hh h => h.of_heap hh) own started (by kernel_rfl) Tryd.func11
    (ChangeSpec.witness_shaped (enc := enc) (C := Tryd.checked) (os := os) (X := fun w _ => laidMetH Tryd.prog laid w) false (World.laidAll Tryd.prog os laid) #[.int .u16 0, .int .u8 0] 8 (World.laidAll_os _ _ _)
      (wit_shaped os _) (by kernel_rfl) (naturalLong_pre enc _) (naturalLong_sized enc _) (wit_laid os _)) ?_
  intro W base args ds gs before hval0 hW _ _ hL _
  have hval : ∀ (j : Nat) t v, Tryd.f11.params[j]? = some t → args[j]? = some v → Value.okWide Tryd.prog W .any base t v := hval0
  have hW' := hW
  obtain ⟨p, q, hA0, hV, rfl, _, _⟩ := hW
  have hA : DataW.TrodAll enc Tryd.prog W 0 (fun _ => true) true Tryd.f11.params.toList args.toList ds p := hA0
  rw [Tryd.params11] at hA hval
  obtain ⟨v0, v1, d0, d1, p0, p1, rfl, rfl, rfl, h0, h1⟩ := trodAll_two hA
  obtain ⟨rfl, rfl⟩ := trodVars_none hV
  obtain ⟨a0, rfl, rfl, rfl, b0⟩ := open_int Tryd.underlying44 (hval 0 44 v0 rfl rfl) h0
  obtain ⟨a1, rfl, rfl, rfl, b1⟩ := open_int Tryd.underlying5 (hval 1 5 v1 rfl rfl) h1
  simp only [List.append_nil] at hW'
  refine (long_any a0 a1 W b0 b1).mono fun e W' ⟨he, hch⟩ => ?_
  subst he
  exact ⟨_, rfl, _, _, _, [], [], [], hW', trodAll_mk1 (shut_bool Tryd.underlying4 _), trodAll_mk2 (shut_int Tryd.underlying44 b0) (shut_int Tryd.underlying5 b1), rfl, hch.below.frame _, fun h => by cases h⟩

theorem naturalLong_holds : Rows.NaturalLongSaid :=
  OpenClaim.holds_of_wide 11 Tryd.f11 rfl rfl rfl rfl rfl rfl rfl ⟨rfl, rfl, rfl, rfl, rfl⟩ rfl rfl rfl rfl rfl (by kernel_rfl) Tryd.func11 (by kernel_rfl)
    (of_decide_eq_true (by kernel_rfl)) (by unfold Func.isWrapper; first | (rw [if_pos (by decide +kernel)]; kernel_rfl) | (rw [if_neg (by decide +kernel)]; exact ⟨rfl, rfl⟩))
    (fun os started H enc _ => naturalLong_lifted os started H enc)

theorem naturalLong_card : Rows.NaturalLongCardSaid :=
  Claim7.holds_tied_plain_at .later [] [.data, .pinned] true (true, "7877544c4d72a08167934dab7dd3a98d5f4ddb58df4b5f37f2ff6965ecaac563") false naturalLong_holds (fun _ h => by cases h) (by kernel_rfl) (fun _ h => by cases h) naturalLong_row_tie rfl ⟨rfl, rfl⟩ (by kernel_rfl) rfl
    (fun f fn hf hfn => by
      obtain rfl : f = 11 := Option.some.inj ((show Tryd.prog.funcNamed Rows.naturalLongRow.func = some 11 by kernel_rfl).symm.trans hf) |>.symm
      obtain rfl : fn = Tryd.f11 := (Option.some.inj (Tryd.func11.symm.trans hfn)).symm
      exact ⟨by kernel_rfl, fun j t ht => by
        rw [Tryd.params11] at ht
        have hm : t ∈ [44, 5] := by simpa using Array.mem_of_getElem? ht
        have hall : ([44, 5].all fun u => !Tryd.prog.wantsStandIn u) = true := by kernel_rfl
        exact (show Tryd.prog.wantsStandIn t = false by simpa using List.all_eq_true.1 hall t hm)⟩)
    (by kernel_rfl)
end Go.Proofs.YtnemodboceenfaaDoor
