/-
  The law InterestAdditive.
-/
import Derived.Test.YtcfejphpflafiaaIB3
namespace Go.Proofs.Ytcfejphpflafiaa
open Go.RowKit Nd

set_option maxRecDepth 20000 in
set_option maxHeartbeats 4000000 in
theorem ladditive_any (am : Int) (by_ : Int) (L : List (Int × Int)) (f : Int) (xx : Int) (yy : Int) (m : Nat) (A : Option Addr) (cap : Nat) (w : World) (ham : 0 ≤ am ∧ am ≤ 65535) (hby_ : 0 ≤ by_ ∧ by_ ≤ 65535) (hf : 0 ≤ f ∧ f ≤ 255) (hxx : 0 ≤ xx ∧ xx ≤ 255) (hyy : 0 ≤ yy ∧ yy ≤ 255) (hn : L.length = m) (hr : ∀ x ∈ L, (0 ≤ x.1 ∧ x.1 ≤ 65535) ∧ 0 ≤ x.2 ∧ x.2 ≤ 65535) (hx : RdP w A L) :
    Calls Try.prog 9 #[.int .u16 am, .int .u16 by_, .slice A m cap, .int .u8 f, .int .u8 xx, .int .u8 yy] w fun e w' => e = .returned (.bool true) ∧ Chg [] w w' := by
  have hch : Chg [] w w := Chg.refl _ _
  have HN := Lib.hid hn
  have HR := Lib.hid hr
  have am1 := ham.1
  have am2 := ham.2
  have by_1 := hby_.1
  have by_2 := hby_.2
  have f1 := hf.1
  have f2 := hf.2
  have xx1 := hxx.1
  have xx2 := hxx.2
  have yy1 := hyy.1
  have yy2 := hyy.2
  clear hn hr ham hby_ hf hxx hyy
  go_enter Try.func9, Try.ntmps9
  go_wp2_with fail
  refine (steps_any L m A cap _ HN.out HR.out hx).mono ?_
  rintro e w1 ⟨v, xs, rfl, hown, hq, hfit, -, c1⟩
  obtain ⟨B, cb, rfl, -, -, hs⟩ := hown.sds
  have HB := Lib.hid (Bst.of HR.out hq hfit)
  obtain ⟨Ls, HLS⟩ := name_it (bldQ r12 0 (L.take 5))
  rw [HLS.out] at HB
  clear hown hq hfit hx HLS
  replace hch := hch.then c1
  clear c1
  have HZ0n := Lib.hid (amtQ_nn (x := am) am1)
  have HZKn := Lib.hid (amtQ_nn (x := by_) by_1)
  go_wp2_with fail
  refine (amount_any am _ am1 am2).mono ?_
  rintro e w2 ⟨z0, rfl, h0, c1⟩
  have HZ0 := Lib.hid h0
  clear h0
  replace hs := hs.keep0 c1
  replace hch := hch.then c1
  clear c1
  go_wp2_with fail
  refine (amount_any by_ _ by_1 by_2).mono ?_
  rintro e w3 ⟨zk, rfl, h0, c1⟩
  have HZK := Lib.hid h0
  clear h0
  replace hs := hs.keep0 c1
  replace hch := hch.then c1
  clear c1
  obtain ⟨p, HPM⟩ := name_it (amtQ am)
  rw [HPM.out] at HZ0 HZ0n
  obtain ⟨k, HKM⟩ := name_it (amtQ by_)
  rw [HKM.out] at HZK HZKn
  have c3 : Chg [] w3 ((w3.alloc (.cells #[.bool z0.neg, .string z0.num, .string z0.den] 29)).alloc (.cells #[.bool zk.neg, .string zk.num, .string zk.den] 29)) := ((Chg.refl _ _).alloc _).alloc _
  have b0 := (Blk3.alloc w3 (.bool z0.neg) (.string z0.num) (.string z0.den) 29).keep0 ((Chg.refl [] _).alloc (.cells #[.bool zk.neg, .string zk.num, .string zk.den] 29))
  have bk := Blk3.alloc (w3.alloc (.cells #[.bool z0.neg, .string z0.num, .string z0.den] 29)) (.bool zk.neg) (.string zk.num) (.string zk.den) 29
  rw [World.size_alloc] at bk
  replace hs := hs.keep0 c3
  replace hch := hch.then c3
  clear c3
  have b0c0 := b0.c0
  have b0c1 := b0.c1
  have b0c2 := b0.c2
  have b0f0 := b0.f0
  have b0f1 := b0.f1
  have b0f2 := b0.f2
  have b0l := b0.lt
  go_wp2_with fail
  refine (simple_b HB.out z0 p 1 f (f + xx) 365 B cb _ HZ0.out.num (by omega) HZ0n.out (by omega) (by omega) (by omega) (.inr rfl) hs).mono ?_
  rintro e w4 ⟨z1, rfl, h1, c1⟩
  clear b0c0 b0c1 b0c2 b0f0 b0f1 b0f2 b0l
  have H1 := Lib.hid h1
  clear h1
  replace b0 := b0.keep0 c1
  replace bk := bk.keep0 c1
  replace hs := hs.keep0 c1
  replace hch := hch.then c1
  have b1 := Blk3.alloc w4 (.bool z1.neg) (.string z1.num) (.string z1.den) 29
  have c2 : Chg [] w4 (w4.alloc (.cells #[.bool z1.neg, .string z1.num, .string z1.den] 29)) := (Chg.refl _ _).alloc _
  replace b0 := b0.keep0 c2
  replace bk := bk.keep0 c2
  replace hs := hs.keep0 c2
  replace hch := hch.then c2
  clear c1 c2
  have b0c0 := b0.c0
  have b0c1 := b0.c1
  have b0c2 := b0.c2
  have b0f0 := b0.f0
  have b0f1 := b0.f1
  have b0f2 := b0.f2
  have b0l := b0.lt
  go_wp2_with fail
  refine (simple_b HB.out z0 p 1 (f + xx) (f + xx + yy) 365 B cb _ HZ0.out.num (by omega) HZ0n.out (by omega) (by omega) (by omega) (.inr rfl) hs).mono ?_
  rintro e w5 ⟨z2, rfl, h2, c1⟩
  clear b0c0 b0c1 b0c2 b0f0 b0f1 b0f2 b0l
  have H2 := Lib.hid h2
  clear h2
  replace b0 := b0.keep0 c1
  replace bk := bk.keep0 c1
  replace b1 := b1.keep0 c1
  replace hs := hs.keep0 c1
  replace hch := hch.then c1
  have b2 := Blk3.alloc w5 (.bool z2.neg) (.string z2.num) (.string z2.den) 29
  have c2 : Chg [] w5 (w5.alloc (.cells #[.bool z2.neg, .string z2.num, .string z2.den] 29)) := (Chg.refl _ _).alloc _
  replace b0 := b0.keep0 c2
  replace bk := bk.keep0 c2
  replace b1 := b1.keep0 c2
  replace hs := hs.keep0 c2
  replace hch := hch.then c2
  clear c1 c2
  have b0c0 := b0.c0
  have b0c1 := b0.c1
  have b0c2 := b0.c2
  have b0f0 := b0.f0
  have b0f1 := b0.f1
  have b0f2 := b0.f2
  have b0l := b0.lt
  go_wp2_with fail
  refine (simple_b HB.out z0 p 1 f (f + xx + yy) 365 B cb _ HZ0.out.num (by omega) HZ0n.out (by omega) (by omega) (by omega) (.inr rfl) hs).mono ?_
  rintro e w6 ⟨z3, rfl, h3, c1⟩
  clear b0c0 b0c1 b0c2 b0f0 b0f1 b0f2 b0l
  have H3 := Lib.hid h3
  clear h3
  replace b0 := b0.keep0 c1
  replace bk := bk.keep0 c1
  replace b1 := b1.keep0 c1
  replace b2 := b2.keep0 c1
  replace hs := hs.keep0 c1
  replace hch := hch.then c1
  have b3 := Blk3.alloc w6 (.bool z3.neg) (.string z3.num) (.string z3.den) 29
  have c2 : Chg [] w6 (w6.alloc (.cells #[.bool z3.neg, .string z3.num, .string z3.den] 29)) := (Chg.refl _ _).alloc _
  replace b0 := b0.keep0 c2
  replace bk := bk.keep0 c2
  replace b1 := b1.keep0 c2
  replace b2 := b2.keep0 c2
  replace hs := hs.keep0 c2
  replace hch := hch.then c2
  clear c1 c2
  have b0c0 := b0.c0
  have b0c1 := b0.c1
  have b0c2 := b0.c2
  have b0f0 := b0.f0
  have b0f1 := b0.f1
  have b0f2 := b0.f2
  have b0l := b0.lt
  have bkc0 := bk.c0
  have bkc1 := bk.c1
  have bkc2 := bk.c2
  have bkf0 := bk.f0
  have bkf1 := bk.f1
  have bkf2 := bk.f2
  have bkl := bk.lt
  go_wp2_with fail
  refine (MultiplyN z0 zk p k 1 1 _ HZ0.out.num HZK.out.num (by omega)).mono ?_
  rintro e w7 ⟨z4, rfl, h4, c1⟩
  clear b0c0 b0c1 b0c2 b0f0 b0f1 b0f2 b0l bkc0 bkc1 bkc2 bkf0 bkf1 bkf2 bkl
  have H4 := Lib.hid h4
  clear h4
  replace b0 := b0.keep0 c1
  replace bk := bk.keep0 c1
  replace b1 := b1.keep0 c1
  replace b2 := b2.keep0 c1
  replace b3 := b3.keep0 c1
  replace hs := hs.keep0 c1
  replace hch := hch.then c1
  clear c1
  go_wp2_with fail
  refine (simple_b HB.out z4 (p * k) (1 + 1) f (f + xx + yy) 365 B cb _ H4.out.num (by omega) (Rat.mul_nonneg HZ0n.out HZKn.out) (by omega) (by omega) (by omega) (.inr rfl) hs).mono ?_
  rintro e w8 ⟨z5, rfl, h5, c1⟩
  have H5 := Lib.hid h5
  clear h5
  replace b0 := b0.keep0 c1
  replace bk := bk.keep0 c1
  replace b1 := b1.keep0 c1
  replace b2 := b2.keep0 c1
  replace b3 := b3.keep0 c1
  replace hs := hs.keep0 c1
  replace hch := hch.then c1
  have b5 := Blk3.alloc w8 (.bool z5.neg) (.string z5.num) (.string z5.den) 29
  have c2 : Chg [] w8 (w8.alloc (.cells #[.bool z5.neg, .string z5.num, .string z5.den] 29)) := (Chg.refl _ _).alloc _
  replace b0 := b0.keep0 c2
  replace bk := bk.keep0 c2
  replace b1 := b1.keep0 c2
  replace b2 := b2.keep0 c2
  replace b3 := b3.keep0 c2
  replace hs := hs.keep0 c2
  replace hch := hch.then c2
  clear c1 c2
  clear b0 hs
  go_wp2_with fail
  have hadd := accT_add Ls (f := f) (m := f + xx) (t := f + xx + yy) (by omega) (by omega)
  obtain ⟨a1, HA1⟩ := name_it (accT Ls f (f + xx))
  obtain ⟨a2, HA2⟩ := name_it (accT Ls (f + xx) (f + xx + yy))
  obtain ⟨a3, HA3⟩ := name_it (accT Ls f (f + xx + yy))
  rw [HA1.out, HA2.out, HA3.out] at hadd
  rw [HA1.out] at H1
  rw [HA2.out] at H2
  rw [HA3.out] at H3 H5
  have hsum : Hid (p * (a1 / ((365 : Int) : Rat)) + p * (a2 / ((365 : Int) : Rat)) = p * (a3 / ((365 : Int) : Rat))) := Lib.hid (by rw [← hadd]; grind)
  have hmul : Hid (p * (a3 / ((365 : Int) : Rat)) * k = p * k * (a3 / ((365 : Int) : Rat))) := Lib.hid (by grind)
  clear hadd HA1 HA2 HA3
  obtain ⟨wf, HWF⟩ := name_it (w8.alloc (.cells #[.bool z5.neg, .string z5.num, .string z5.den] 29))
  rw [HWF.out] at b1 b2 b3 b5 bk hch ⊢
  obtain ⟨x1, HX1⟩ := name_it (w4.heap.size)
  rw [HX1.out] at b1 ⊢
  obtain ⟨x2, HX2⟩ := name_it (w5.heap.size)
  rw [HX2.out] at b2 ⊢
  obtain ⟨x3, HX3⟩ := name_it (w6.heap.size)
  rw [HX3.out] at b3 ⊢
  obtain ⟨x5, HX5⟩ := name_it (w8.heap.size)
  rw [HX5.out] at b5 ⊢
  obtain ⟨xk, HXK⟩ := name_it (w3.heap.size + 1)
  rw [HXK.out] at bk ⊢
  have c8 : Chg [] wf wf.drew := (Chg.refl _ _).drew
  replace b1 := b1.keep c8 (by simp)
  replace b2 := b2.keep c8 (by simp)
  replace b3 := b3.keep c8 (by simp)
  replace b5 := b5.keep c8 (by simp)
  replace bk := bk.keep c8 (by simp)
  replace hch := hch.then c8
  clear c8
  go_region_held3 (fun w' => w'.cell? ⟨x1, 0, none⟩ = some (.bool z1.neg) ∧ w'.cell? ⟨x1, 1, none⟩ = some (.string z1.num) ∧ w'.cell? ⟨x1, 2, none⟩ = some (.string z1.den) ∧ w'.cell? ⟨x2, 0, none⟩ = some (.bool z2.neg) ∧ w'.cell? ⟨x2, 1, none⟩ = some (.string z2.num) ∧ w'.cell? ⟨x2, 2, none⟩ = some (.string z2.den) ∧ w'.cell? ⟨x3, 0, none⟩ = some (.bool z3.neg) ∧ w'.cell? ⟨x3, 1, none⟩ = some (.string z3.num) ∧ w'.cell? ⟨x3, 2, none⟩ = some (.string z3.den) ∧ w'.cell? ⟨x5, 0, none⟩ = some (.bool z5.neg) ∧ w'.cell? ⟨x5, 1, none⟩ = some (.string z5.num) ∧ w'.cell? ⟨x5, 2, none⟩ = some (.string z5.den) ∧ w'.cell? ⟨xk, 0, none⟩ = some (.bool zk.neg) ∧ w'.cell? ⟨xk, 1, none⟩ = some (.string zk.num) ∧ w'.cell? ⟨xk, 2, none⟩ = some (.string zk.den)) (first | exact ⟨b1.c0, b1.c1, b1.c2, b2.c0, b2.c1, b2.c2, b3.c0, b3.c1, b3.c2, b5.c0, b5.c1, b5.c2, bk.c0, bk.c1, bk.c2⟩) (first
    | (go_at_call 13
       (with_reducible refine (awake_any _).mono ?_)
       rintro e wa ⟨rfl, c1⟩
       replace b1 := b1.keep0 c1
       replace b2 := b2.keep0 c1
       replace b3 := b3.keep0 c1
       replace b5 := b5.keep0 c1
       replace bk := bk.keep0 c1
       replace hch := hch.then c1
       clear c1)
    | (go_at_call 24
       (with_reducible refine (AddN z1 z2 (p * (a1 / ((365 : Int) : Rat))) (p * (a2 / ((365 : Int) : Rat))) (1 + 50000) (1 + 50000) _ H1.out.num H2.out.num (by omega)).mono ?_)
       rintro e wb ⟨z9, rfl, h9, c1⟩
       rw [hsum.out] at h9
       have e9 : z9 = z3 := h9.unique H3.out
       rw [e9]
       clear e9 h9
       replace b1 := b1.keep0 c1
       replace b2 := b2.keep0 c1
       replace b3 := b3.keep0 c1
       replace b5 := b5.keep0 c1
       replace bk := bk.keep0 c1
       replace hch := hch.then c1
       clear c1)
    | (go_at_call 26
       (with_reducible refine (MultiplyN z3 zk (p * (a3 / ((365 : Int) : Rat))) k (1 + 50000) 1 _ H3.out.num HZK.out.num (by omega)).mono ?_)
       rintro e wb ⟨z9, rfl, h9, c1⟩
       rw [hmul.out] at h9
       have e9 : z9 = z5 := h9.unique H5.out
       rw [e9]
       clear e9 h9
       replace b1 := b1.keep0 c1
       replace b2 := b2.keep0 c1
       replace b3 := b3.keep0 c1
       replace b5 := b5.keep0 c1
       replace bk := bk.keep0 c1
       replace hch := hch.then c1
       clear c1)
    | fail)
  all_goals
    go_wp2_with fail
    go_ret
    exact ⟨rfl, hch⟩
end Go.Proofs.Ytcfejphpflafiaa
