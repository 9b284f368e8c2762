/-
  Party: the law PartyConnected.
-/
import Derived.Test.YtgdpcpbmjgaliaaPL1
import Derived.Test.YtgdpcpbmjgaliaaPR6
namespace Go.Proofs.Ytgdpcpbmjgaliaa
open Go.RowKit Nd

theorem leasts_any (p : PV) (w : World) (hp : p.At w) : ∃ LF, ckP p.K p.S p.T = 0 → Sound p LF := by
  by_cases h : ckP p.K p.S p.T = 0
  · have hc : ∀ c, ∃ X, Least (pdOf p.K p.S) c X := fun c => least_exists (pdOf p.K p.S) c (ck_zero h).2.2.2.1.ok.ps
    exact ⟨fun c => Classical.choose (hc c), fun _ => sound_of hp h fun c => Classical.choose_spec (hc c)⟩
  · exact ⟨fun _ _ => false, fun g => absurd g h⟩

set_option maxRecDepth 20000 in
set_option maxHeartbeats 2000000 in
theorem lpconnected_any (p : PV) (a b : Int) (w : World) (hp : p.At w) (_ : -9223372036854775808 ≤ a ∧ a ≤ 9223372036854775807) (_ : -9223372036854775808 ≤ b ∧ b ≤ 9223372036854775807) :
    Calls Try.prog 6 #[p.val, .int .i64 a, .int .i64 b] w fun e w' => e = .returned (.bool true) ∧ Chg [] w w' := by
  obtain ⟨LF, hL⟩ := leasts_any p w hp
  have b1 := box_p p w
  have hch := chg_p p w
  replace hp := hp.keep0 hch
  have b1c0 := b1.c0
  have b1c1 := b1.c1
  have b1c2 := b1.c2
  have HFW := Lib.hid (fun w h => few8_any p w h)
  have HFF : Hid (fewP p = true → FitS p.S 24) := Lib.hid fewP_fits
  obtain ⟨f, HFP⟩ := name_it (fewP p)
  rw [HFP.out] at HFW HFF
  cases f with
  | false =>
    go_enter Try.func6, Try.ntmps6
    go_wp2_with fail
    refine (HFW.out _ hp).mono ?_
    rintro e w1 ⟨rfl, c1⟩
    replace hch := hch.then c1
    clear c1 b1c0 b1c1 b1c2
    go_wp2_with fail
    refine (awake8_any _).mono ?_
    rintro e w2 ⟨rfl, c1⟩
    replace hch := hch.then c1
    clear c1
    go_wp2_with fail
    go_ret
    exact ⟨rfl, hch⟩
  | true =>
    have hF := HFF.out rfl
    have HP1 := Lib.hid (fun w h => pconnected_any p 24 a b LF w h hF hL)
    have HR1 := Lib.hid (fun w h => rConnected_any p 24 a b LF w h hF hL)
    have HP2 := Lib.hid (fun w h => pcircle_any p 24 a LF w h hF hL)
    have HR2 := Lib.hid (fun w h => rCircle_any p 24 a LF w h hF hL)
    have HLE : Hid ((ctlL (cfE p [⟨a⟩]) (nrB p.T LF p.n a.toNat) p.n).length ≤ 1000000) := Lib.hid (by
      unfold ctlL
      split
      · rename_i h
        have h1 := (ck_zero (cf_zero h).1).1
        rw [hp.kn] at h1
        have := idx_len (nrB p.T LF p.n a.toNat) p.n
        omega
      · simp)
    obtain ⟨L, HL⟩ := name_it (ctlL (cfE p [⟨a⟩]) (nrB p.T LF p.n a.toNat) p.n)
    rw [HL.out] at HP2 HR2 HLE
    obtain ⟨r, HR⟩ := name_it (cfE p [⟨a⟩])
    rw [HR.out] at HP2 HR2
    obtain ⟨y, HY⟩ := name_it (decide (cfE p [⟨a⟩, ⟨b⟩] = 0) && nrB p.T LF p.n a.toNat b.toNat)
    rw [HY.out] at HP1 HR1
    obtain ⟨q, HQ⟩ := name_it (cfE p [⟨a⟩, ⟨b⟩])
    rw [HQ.out] at HP1 HR1
    obtain ⟨l, HLN⟩ := name_it L.length
    rw [HLN.out] at HLE
    have e1 : (r == r) = true := by simp
    have e2 : (q == q) = true := by simp
    have e3 : (y == y) = true := by simp
    clear hF hL
    go_enter Try.func6, Try.ntmps6
    go_wp2_with fail
    refine (HFW.out _ hp).mono ?_
    rintro e w1 ⟨rfl, c1⟩
    replace b1 := b1.keep0 c1
    replace hp := hp.keep0 c1
    replace hch := hch.then c1
    clear c1 b1c0 b1c1 b1c2
    have b1c0 := b1.c0
    have b1c1 := b1.c1
    have b1c2 := b1.c2
    go_wp2_with fail
    refine (HP1.out _ hp).mono ?_
    rintro e w2 ⟨rfl, c1⟩
    replace b1 := b1.keep0 c1
    replace hp := hp.keep0 c1
    replace hch := hch.then c1
    clear c1 b1c0 b1c1 b1c2
    have b1c0 := b1.c0
    have b1c1 := b1.c1
    have b1c2 := b1.c2
    go_wp2_with fail
    refine (HR1.out _ hp).mono ?_
    rintro e w3 ⟨rfl, c1⟩
    replace b1 := b1.keep0 c1
    replace hp := hp.keep0 c1
    replace hch := hch.then c1
    clear c1 b1c0 b1c1 b1c2
    have b1c0 := b1.c0
    have b1c1 := b1.c1
    have b1c2 := b1.c2
    go_wp2_with fail
    refine (HP2.out _ hp).mono ?_
    rintro e w4 ⟨v, rfl, hown, -, c1⟩
    obtain ⟨A, cap, rfl, -, -, hv⟩ := hown.rds
    rw [HLN.out]
    replace b1 := b1.keep0 c1
    replace hp := hp.keep0 c1
    replace hch := hch.then c1
    clear c1 b1c0 b1c1 b1c2 hown
    have b1c0 := b1.c0
    have b1c1 := b1.c1
    have b1c2 := b1.c2
    go_wp2_with fail
    refine (HR2.out _ hp).mono ?_
    rintro e w5 ⟨u, rfl, hown, -, c1⟩
    obtain ⟨B, cap2, rfl, -, -, hu⟩ := hown.rds
    rw [HLN.out]
    replace hv := hv.keep0 c1
    replace hch := hch.then c1
    clear c1 b1c0 b1c1 b1c2 hp b1 hown
    go_wp2_with fail
    refine (awake8_any _).mono ?_
    rintro e w6 ⟨rfl, c1⟩
    replace hv := hv.keep0 c1
    replace hu := hu.keep0 c1
    replace hch := hch.then c1
    clear c1
    go_wp2_with fail
    refine (sameZ_any L l A B cap cap2 _ HLN.out HLE.out hv hu).mono ?_
    rintro e w7 ⟨rfl, c1⟩
    replace hch := hch.then c1
    clear c1 hv hu
    go_wp2_with fail
    go_ret
    exact ⟨ret_eq (by simp), hch⟩
end Go.Proofs.Ytgdpcpbmjgaliaa
