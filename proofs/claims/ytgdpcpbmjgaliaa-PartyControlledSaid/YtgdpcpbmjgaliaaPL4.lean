/-
  Party: the law PartyControlled.
-/
import Derived.Test.YtgdpcpbmjgaliaaPL1
import Derived.Test.YtgdpcpbmjgaliaaPR4
namespace Go.Proofs.Ytgdpcpbmjgaliaa
open Go.RowKit Nd

theorem least_any (p : PV) (a : Nat) : ∃ LX, ckP p.K p.S p.T = 0 → Least (pdOf p.K p.S) a LX := by
  by_cases h : ckP p.K p.S p.T = 0
  · obtain ⟨X, hX⟩ := least_exists (pdOf p.K p.S) a (ck_zero h).2.2.2.1.ok.ps
    exact ⟨X, fun _ => hX⟩
  · exact ⟨fun _ => false, fun g => absurd g h⟩

set_option maxRecDepth 20000 in
set_option maxHeartbeats 2000000 in
theorem lpcontrolled_any (p : PV) (a b : Int) (w : World) (hp : p.At w) (_ : -9223372036854775808 ≤ a ∧ a ≤ 9223372036854775807) (_ : -9223372036854775808 ≤ b ∧ b ≤ 9223372036854775807) :
    Calls Try.prog 5 #[p.val, .int .i64 a, .int .i64 b] w fun e w' => e = .returned (.bool true) ∧ Chg [] w w' := by
  have b1 := box_p p w
  have hch := chg_p p w
  replace hp := hp.keep0 hch
  have b1c0 := b1.c0
  have b1c1 := b1.c1
  have b1c2 := b1.c2
  have HFW := Lib.hid (fun w h => few8_any p w h)
  have HFF : Hid (fewP p = true → FitS p.S 24) := Lib.hid fewP_fits
  obtain ⟨f, HFP⟩ := name_it (fewP p)
  rw [HFP.out] at HFW HFF
  cases f with
  | false =>
    go_enter Try.func5, Try.ntmps5
    go_wp2_with fail
    refine (HFW.out _ hp).mono ?_
    rintro e w1 ⟨rfl, c1⟩
    replace hch := hch.then c1
    clear c1 b1c0 b1c1 b1c2
    go_wp2_with fail
    refine (awake8_any _).mono ?_
    rintro e w2 ⟨rfl, c1⟩
    replace hch := hch.then c1
    clear c1
    go_wp2_with fail
    go_ret
    exact ⟨rfl, hch⟩
  | true =>
    have hF := HFF.out rfl
    obtain ⟨LX, hL⟩ := least_any p a.toNat
    have hL1 : cfE p [⟨a⟩] = 0 → Least (pdOf p.K p.S) a.toNat LX := fun h => hL (cf_zero h).1
    have hL2 : cfE p [⟨a⟩, ⟨b⟩] = 0 → Least (pdOf p.K p.S) a.toNat LX := fun h => hL (cf_zero h).1
    have HP1 := Lib.hid (fun w h => pcontrolled_any p 24 a LX w h hF hL1)
    have HR1 := Lib.hid (fun w h => rControlled_any p 24 a LX w h hF hL1)
    have HP2 := Lib.hid (fun w h => pcontrols_any p 24 a b LX w h hF hL2)
    have HR2 := Lib.hid (fun w h => rControls_any p 24 a b LX w h hF hL2)
    have HLE : Hid ((ctlL (cfE p [⟨a⟩]) LX p.n).length ≤ 1000000) := Lib.hid (by
      unfold ctlL
      split
      · rename_i h
        have h1 := (ck_zero (cf_zero h).1).1
        rw [hp.kn] at h1
        have := idx_len LX p.n
        omega
      · simp)
    obtain ⟨L, HL⟩ := name_it (ctlL (cfE p [⟨a⟩]) LX p.n)
    rw [HL.out] at HP1 HR1 HLE
    obtain ⟨r, HR⟩ := name_it (cfE p [⟨a⟩])
    rw [HR.out] at HP1 HR1
    obtain ⟨y, HY⟩ := name_it (decide (cfE p [⟨a⟩, ⟨b⟩] = 0) && LX b.toNat)
    rw [HY.out] at HP2 HR2
    obtain ⟨q, HQ⟩ := name_it (cfE p [⟨a⟩, ⟨b⟩])
    rw [HQ.out] at HP2 HR2
    obtain ⟨l, HLN⟩ := name_it L.length
    rw [HLN.out] at HLE
    have e1 : (r == r) = true := by simp
    have e2 : (q == q) = true := by simp
    have e3 : (y == y) = true := by simp
    clear hF hL hL1 hL2
    go_enter Try.func5, Try.ntmps5
    go_wp2_with fail
    refine (HFW.out _ hp).mono ?_
    rintro e w1 ⟨rfl, c1⟩
    replace b1 := b1.keep0 c1
    replace hp := hp.keep0 c1
    replace hch := hch.then c1
    clear c1 b1c0 b1c1 b1c2
    have b1c0 := b1.c0
    have b1c1 := b1.c1
    have b1c2 := b1.c2
    go_wp2_with fail
    refine (HP1.out _ hp).mono ?_
    rintro e w2 ⟨v, rfl, hown, -, c1⟩
    obtain ⟨A, cap, rfl, -, -, hv⟩ := hown.rds
    rw [HLN.out]
    replace b1 := b1.keep0 c1
    replace hp := hp.keep0 c1
    replace hch := hch.then c1
    clear c1 b1c0 b1c1 b1c2 hown
    have b1c0 := b1.c0
    have b1c1 := b1.c1
    have b1c2 := b1.c2
    go_wp2_with fail
    refine (HR1.out _ hp).mono ?_
    rintro e w3 ⟨u, rfl, hown, -, c1⟩
    obtain ⟨B, cap2, rfl, -, -, hu⟩ := hown.rds
    rw [HLN.out]
    replace hv := hv.keep0 c1
    replace b1 := b1.keep0 c1
    replace hp := hp.keep0 c1
    replace hch := hch.then c1
    clear c1 b1c0 b1c1 b1c2 hown
    have b1c0 := b1.c0
    have b1c1 := b1.c1
    have b1c2 := b1.c2
    go_wp2_with fail
    refine (HP2.out _ hp).mono ?_
    rintro e w4 ⟨rfl, c1⟩
    replace hv := hv.keep0 c1
    replace hu := hu.keep0 c1
    replace b1 := b1.keep0 c1
    replace hp := hp.keep0 c1
    replace hch := hch.then c1
    clear c1 b1c0 b1c1 b1c2
    have b1c0 := b1.c0
    have b1c1 := b1.c1
    have b1c2 := b1.c2
    go_wp2_with fail
    refine (HR2.out _ hp).mono ?_
    rintro e w5 ⟨rfl, c1⟩
    replace hv := hv.keep0 c1
    replace hu := hu.keep0 c1
    replace hch := hch.then c1
    clear c1 b1c0 b1c1 b1c2 hp b1
    go_wp2_with fail
    refine (awake8_any _).mono ?_
    rintro e w6 ⟨rfl, c1⟩
    replace hv := hv.keep0 c1
    replace hu := hu.keep0 c1
    replace hch := hch.then c1
    clear c1
    go_wp2_with fail
    refine (sameZ_any L l A B cap cap2 _ HLN.out HLE.out hv hu).mono ?_
    rintro e w7 ⟨rfl, c1⟩
    replace hch := hch.then c1
    clear c1 hv hu
    go_wp2_with fail
    go_ret
    exact ⟨ret_eq (by simp), hch⟩
end Go.Proofs.Ytgdpcpbmjgaliaa
