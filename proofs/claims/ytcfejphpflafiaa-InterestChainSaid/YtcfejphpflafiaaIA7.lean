/-
  The law InterestChain.
-/
import Derived.Test.YtcfejphpflafiaaIB3
namespace Go.Proofs.Ytcfejphpflafiaa
open Go.RowKit Nd

set_option maxRecDepth 20000 in
set_option maxHeartbeats 4000000 in
theorem lchain_any (am : Int) (L : List (Int × Int)) (f : Int) (pr : Int) (ev : Int) (rs : Int) (m : Nat) (A : Option Addr) (cap : Nat) (w : World) (ham : 0 ≤ am ∧ am ≤ 65535) (hf : 0 ≤ f ∧ f ≤ 255) (hpr : 0 ≤ pr ∧ pr ≤ 255) (hev : 0 ≤ ev ∧ ev ≤ 255) (hrs : 0 ≤ rs ∧ rs ≤ 255) (hn : L.length = m) (hr : ∀ x ∈ L, (0 ≤ x.1 ∧ x.1 ≤ 65535) ∧ 0 ≤ x.2 ∧ x.2 ≤ 65535) (hx : RdP w A L) :
    Calls Try.prog 11 #[.int .u16 am, .slice A m cap, .int .u8 f, .int .u8 pr, .int .u8 ev, .int .u8 rs] w fun e w' => e = .returned (.bool true) ∧ Chg [] w w' := by
  have hch : Chg [] w w := Chg.refl _ _
  have HN := Lib.hid hn
  have HR := Lib.hid hr
  have am1 := ham.1
  have am2 := ham.2
  have f1 := hf.1
  have f2 := hf.2
  have pr1 := hpr.1
  have pr2 := hpr.2
  have ev1 := hev.1
  have ev2 := hev.2
  have rs1 := hrs.1
  have rs2 := hrs.2
  clear hn hr ham hf hpr hev hrs
  obtain ⟨c, HC⟩ := name_it (pr % 6)
  have ca : pr % 6 = c := HC.out
  have cb : pr.tmod 6 = c := by rw [Int.tmod_eq_emod_of_nonneg pr1]; exact HC.out
  have c1 : 0 ≤ c := by omega
  have c2 : c ≤ 5 := by omega
  clear HC
  obtain ⟨d, HD⟩ := name_it (ev % 20)
  have da : ev % 20 = d := HD.out
  have db : ev.tmod 20 = d := by rw [Int.tmod_eq_emod_of_nonneg ev1]; exact HD.out
  have d1 : 0 ≤ d := by omega
  have d2 : d ≤ 19 := by omega
  clear HD
  obtain ⟨r, HR⟩ := name_it (rs % 40)
  have ra : rs % 40 = r := HR.out
  have rb : rs.tmod 40 = r := by rw [Int.tmod_eq_emod_of_nonneg rs1]; exact HR.out
  have r1 : 0 ≤ r := by omega
  have r2 : r ≤ 39 := by omega
  clear HR
  obtain ⟨n, HNN⟩ := name_it (1 + d)
  have hnn := HNN.out
  have n1 : 1 ≤ n := by omega
  have n2 : n ≤ 20 := by omega
  obtain ⟨J, HJ⟩ := name_it (n * c)
  have J1 : 0 ≤ J := by rw [← HJ.out]; exact Int.mul_nonneg (by omega) (by omega)
  have J2 : J ≤ 5 * n := by rw [← HJ.out, Int.mul_comm]; exact Int.mul_le_mul_of_nonneg_right (by omega) (by omega)
  have hj1 := HJ.out
  have hj2 : wrap64 (n * c) = J := by rw [HJ.out]; unfold wrap64; omega
  have hj3 : IntKind.i64.wrap (n * c) = J := by rw [HJ.out, IntKind.wrap_i64]; omega
  have HCH : Hid (∀ L : Stp, growth L ((365 : Int) : Rat) f (f + J + r) n = growth L ((365 : Int) : Rat) f (f + J) n * growth L ((365 : Int) : Rat) (f + J) (f + J + r) n) := Lib.hid fun L => by
    have e : ((c.toNat : Nat) : Int) * n = J := by rw [← HJ.out, Int.mul_comm]; congr 1; omega
    have := growth_chain (l := L) (b := ((365 : Int) : Rat)) (f := f) (t := f + J + r) (n := n) (m := c.toNat) n1 (by rw [e]; omega)
    rw [e] at this
    exact this
  clear HNN HJ
  go_enter Try.func11, Try.ntmps11
  go_wp2_with fail
  refine (steps_any L m A cap _ HN.out HR.out hx).mono ?_
  rintro e w1 ⟨v, xs, rfl, hown, hq, hfit, -, c1⟩
  obtain ⟨B, cb, rfl, -, -, hs⟩ := hown.sds
  have HB := Lib.hid (Bst.of HR.out hq hfit)
  obtain ⟨Ls, HLS⟩ := name_it (bldQ r12 0 (L.take 5))
  rw [HLS.out] at HB
  clear hown hq hfit hx HLS
  replace hch := hch.then c1
  clear c1
  have HZ0n := Lib.hid (amtQ_nn (x := am) am1)
  go_wp2_with fail
  refine (amount_any am _ am1 am2).mono ?_
  rintro e w2 ⟨z0, rfl, h0, c1⟩
  have HZ0 := Lib.hid h0
  clear h0
  replace hs := hs.keep0 c1
  replace hch := hch.then c1
  have b0 := Blk3.alloc w2 (.bool z0.neg) (.string z0.num) (.string z0.den) 29
  have c2 : Chg [] w2 (w2.alloc (.cells #[.bool z0.neg, .string z0.num, .string z0.den] 29)) := (Chg.refl _ _).alloc _
  replace hs := hs.keep0 c2
  replace hch := hch.then c2
  clear c1 c2
  obtain ⟨pam, HPam⟩ := name_it (amtQ am)
  rw [HPam.out] at HZ0 HZ0n
  have b0c0 := b0.c0
  have b0c1 := b0.c1
  have b0c2 := b0.c2
  have b0f0 := b0.f0
  have b0f1 := b0.f1
  have b0f2 := b0.f2
  have b0l := b0.lt
  go_wp2_with fail
  refine (compound_b HB.out z0 pam 1 f (f + J) 365 n B cb _ HZ0.out.num (by omega) HZ0n.out (by omega) (by omega) (by omega) (.inr rfl) (by omega) (by omega) (by omega) hs).mono ?_
  rintro e w3 ⟨z1, rfl, h1, c1⟩
  clear b0c0 b0c1 b0c2 b0f0 b0f1 b0f2 b0l
  have H1 := Lib.hid h1
  clear h1
  replace b0 := b0.keep0 c1
  replace hs := hs.keep0 c1
  replace hch := hch.then c1
  have b1 := Blk3.alloc w3 (.bool z1.neg) (.string z1.num) (.string z1.den) 29
  have c2 : Chg [] w3 (w3.alloc (.cells #[.bool z1.neg, .string z1.num, .string z1.den] 29)) := (Chg.refl _ _).alloc _
  replace b0 := b0.keep0 c2
  replace hs := hs.keep0 c2
  replace hch := hch.then c2
  clear c1 c2
  obtain ⟨g1, HG1⟩ := name_it (growth Ls ((365 : Int) : Rat) f (f + J) n)
  obtain ⟨g2, HG2⟩ := name_it (growth Ls ((365 : Int) : Rat) (f + J) (f + J + r) n)
  have hg1 : 1 ≤ g1 := by rw [← HG1.out]; exact growth_pos HB.out.good.nn (by decide) (by omega) n1
  have hcc := HCH.out Ls
  rw [HG1.out] at H1 hcc
  rw [HG2.out] at hcc
  have HCC := Lib.hid hcc
  clear hcc
  have b0c0 := b0.c0
  have b0c1 := b0.c1
  have b0c2 := b0.c2
  have b0f0 := b0.f0
  have b0f1 := b0.f1
  have b0f2 := b0.f2
  have b0l := b0.lt
  have b1c0 := b1.c0
  have b1c1 := b1.c1
  have b1c2 := b1.c2
  have b1f0 := b1.f0
  have b1f1 := b1.f1
  have b1f2 := b1.f2
  have b1l := b1.lt
  go_wp2_with fail
  refine (AddN z0 z1 pam (pam * (g1 - 1)) 1 (1 + 50000) _ HZ0.out.num H1.out.num (by omega)).mono ?_
  rintro e w4 ⟨z3, rfl, h3, c1⟩
  clear b0c0 b0c1 b0c2 b0f0 b0f1 b0f2 b0l b1c0 b1c1 b1c2 b1f0 b1f1 b1f2 b1l
  have H3 := Lib.hid h3
  have H3n : Hid (0 ≤ pam + pam * (g1 - 1)) := Lib.hid (by
    have h5 : 0 ≤ pam * g1 := Rat.mul_nonneg HZ0n.out (by grind)
    have h6 : pam + pam * (g1 - 1) = pam * g1 := by grind
    rw [h6]; exact h5)
  clear h3 hg1
  replace b0 := b0.keep0 c1
  replace b1 := b1.keep0 c1
  replace hs := hs.keep0 c1
  replace hch := hch.then c1
  clear c1
  go_wp2_with fail
  refine (compound_b HB.out z3 (pam + pam * (g1 - 1)) (1 + (1 + 50000) + 1) (f + J) (f + J + r) 365 n B cb _ H3.out.num (by omega) H3n.out (by omega) (by omega) (by omega) (.inr rfl) (by omega) (by omega) (by omega) hs).mono ?_
  rintro e w5 ⟨z4, rfl, h4, c1⟩
  rw [HG2.out] at h4
  have H4 := Lib.hid h4
  clear h4
  replace b0 := b0.keep0 c1
  replace b1 := b1.keep0 c1
  replace hs := hs.keep0 c1
  replace hch := hch.then c1
  have b4 := Blk3.alloc w5 (.bool z4.neg) (.string z4.num) (.string z4.den) 29
  have c2 : Chg [] w5 (w5.alloc (.cells #[.bool z4.neg, .string z4.num, .string z4.den] 29)) := (Chg.refl _ _).alloc _
  replace b0 := b0.keep0 c2
  replace b1 := b1.keep0 c2
  replace hs := hs.keep0 c2
  replace hch := hch.then c2
  clear c1 c2
  have b0c0 := b0.c0
  have b0c1 := b0.c1
  have b0c2 := b0.c2
  have b0f0 := b0.f0
  have b0f1 := b0.f1
  have b0f2 := b0.f2
  have b0l := b0.lt
  go_wp2_with fail
  refine (compound_b HB.out z0 pam 1 f (f + J + r) 365 n B cb _ HZ0.out.num (by omega) HZ0n.out (by omega) (by omega) (by omega) (.inr rfl) (by omega) (by omega) (by omega) hs).mono ?_
  rintro e w6 ⟨z5, rfl, h5, c1⟩
  clear b0c0 b0c1 b0c2 b0f0 b0f1 b0f2 b0l
  rw [HCC.out] at h5
  have H5 := Lib.hid h5
  clear h5
  replace b0 := b0.keep0 c1
  replace b1 := b1.keep0 c1
  replace b4 := b4.keep0 c1
  replace hs := hs.keep0 c1
  replace hch := hch.then c1
  have b5 := Blk3.alloc w6 (.bool z5.neg) (.string z5.num) (.string z5.den) 29
  have c2 : Chg [] w6 (w6.alloc (.cells #[.bool z5.neg, .string z5.num, .string z5.den] 29)) := (Chg.refl _ _).alloc _
  replace b0 := b0.keep0 c2
  replace b1 := b1.keep0 c2
  replace b4 := b4.keep0 c2
  replace hs := hs.keep0 c2
  replace hch := hch.then c2
  clear c1 c2
  clear b0 hs
  go_wp2_with fail
  have hsum : Hid (pam * (g1 - 1) + (pam + pam * (g1 - 1)) * (g2 - 1) = pam * (g1 * g2 - 1)) := Lib.hid (by grind)
  obtain ⟨wf, HWF⟩ := name_it (w6.alloc (.cells #[.bool z5.neg, .string z5.num, .string z5.den] 29))
  rw [HWF.out] at b1 b4 b5 hch ⊢
  obtain ⟨x1, HX1⟩ := name_it (w3.heap.size)
  rw [HX1.out] at b1 ⊢
  obtain ⟨x4, HX4⟩ := name_it (w5.heap.size)
  rw [HX4.out] at b4 ⊢
  obtain ⟨x5, HX5⟩ := name_it (w6.heap.size)
  rw [HX5.out] at b5 ⊢
  have c8 : Chg [] wf wf.drew := (Chg.refl _ _).drew
  replace b1 := b1.keep c8 (by simp)
  replace b4 := b4.keep c8 (by simp)
  replace b5 := b5.keep c8 (by simp)
  replace hch := hch.then c8
  clear c8
  go_region_held3 (fun w' => w'.cell? ⟨x1, 0, none⟩ = some (.bool z1.neg) ∧ w'.cell? ⟨x1, 1, none⟩ = some (.string z1.num) ∧ w'.cell? ⟨x1, 2, none⟩ = some (.string z1.den) ∧ w'.cell? ⟨x4, 0, none⟩ = some (.bool z4.neg) ∧ w'.cell? ⟨x4, 1, none⟩ = some (.string z4.num) ∧ w'.cell? ⟨x4, 2, none⟩ = some (.string z4.den) ∧ w'.cell? ⟨x5, 0, none⟩ = some (.bool z5.neg) ∧ w'.cell? ⟨x5, 1, none⟩ = some (.string z5.num) ∧ w'.cell? ⟨x5, 2, none⟩ = some (.string z5.den)) (first | exact ⟨b1.c0, b1.c1, b1.c2, b4.c0, b4.c1, b4.c2, b5.c0, b5.c1, b5.c2⟩) (first
    | (go_at_call 13
       (with_reducible refine (awake_any _).mono ?_)
       rintro e wa ⟨rfl, c1⟩
       replace b1 := b1.keep0 c1
       replace b4 := b4.keep0 c1
       replace b5 := b5.keep0 c1
       replace hch := hch.then c1
       clear c1)
    | (go_at_call 24
       (with_reducible refine (AddN z1 z4 (pam * (g1 - 1)) ((pam + pam * (g1 - 1)) * (g2 - 1)) (1 + 50000) (1 + (1 + 50000) + 1 + 50000) _ H1.out.num H4.out.num (by omega)).mono ?_)
       rintro e wb ⟨z9, rfl, h9, c1⟩
       rw [hsum.out] at h9
       have e9 : z9 = z5 := h9.unique H5.out
       rw [e9]
       clear e9 h9
       replace b1 := b1.keep0 c1
       replace b4 := b4.keep0 c1
       replace b5 := b5.keep0 c1
       replace hch := hch.then c1
       clear c1)
    | fail)
  all_goals
    go_wp2_with fail
    go_ret
    exact ⟨rfl, hch⟩
end Go.Proofs.Ytcfejphpflafiaa
