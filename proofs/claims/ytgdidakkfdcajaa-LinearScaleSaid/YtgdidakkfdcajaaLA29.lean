/-
  Law 3: LinearScale.
-/
import Derived.Test.YtgdidakkfdcajaaLM8
import Derived.Test.YtgdidakkfdcajaaLA28
namespace Go.Proofs.Ytgdidakkfdcajaa
open Go.RowKit Nd

theorem detF_vals {M : List (List Q3)} {F : Nat → Nat → Rat} {n k : Nat} (h : Vals M F n n k) (h4 : n ≤ 4) : detF (matQ M) n = detF F n := by
  rw [detF_det h4, detF_det h4]
  exact det_congr n fun i hi j hj => (h.val i hi j hj).num.rat
set_option maxHeartbeats 1000000 in
theorem det_vals (X : List (List Q3)) (F : Nat → Nat → Rat) (g cp n K : Nat) (u : World) (hV : Vals X F n n K) (h2 : 2 ≤ n) (h4 : n ≤ 4) (_ : 1 ≤ K) (hK2 : K ≤ 2) (hu : Mtx u (some ⟨g, 0, none⟩) X) :
    Calls Try.prog 23 #[.slice (some ⟨g, 0, none⟩) n cp] u fun e w' => ∃ z, e = .returned (.tuple #[.agg #[.bool z.neg, .string z.num, .string z.den], .int .i64 0]) ∧ Val z (detF F n) 100000 ∧ Chg [] u w' := by
  have hKK : KK (2 + (1 + n * 2)) n + (8 + n * (1 + n * 2)) ≤ 100000 := by
    unfold KK
    have h8 : (2 + (1 + n * 2) + 1) * 2 ^ n ≤ (2 + (1 + 4 * 2) + 1) * 2 ^ 4 := Nat.mul_le_mul (by omega) (Nat.pow_le_pow_right (by omega) h4)
    have h9 : n * (1 + n * 2) ≤ 4 * (1 + 4 * 2) := Nat.mul_le_mul h4 (by omega)
    omega
  have h0 := hV.row 0 (by omega)
  have h := Determinant_ok X (some ⟨g, 0, none⟩) cp 2 u hu (vals_square hV (by omega) (by omega)) (by rw [hV.len]; omega) (by omega) (by omega) (vals_fits hV hK2 (by omega))
  rw [hV.len] at h
  refine h.mono ?_
  rintro e w1 ⟨z, rfl, hz, c1⟩
  rw [detF_vals hV h4] at hz
  exact ⟨z, rfl, hz.mono hKK, c1⟩
theorem exF_sw (h : Nat → Nat) (i : Nat) : exF h 1 0 i = h (sw 0 1 i) := by
  unfold exF sw
  by_cases h0 : i = 0
  · subst h0; rfl
  · rw [if_neg h0]; by_cases h1 : i = 1
    · rw [if_pos h1, if_neg h0, if_pos h1]
    · rw [if_neg h1, if_neg h0, if_neg h1]

set_option maxRecDepth 20000 in
set_option maxHeartbeats 4000000 in
theorem lscale_any (s : Int) (L : List Int) (l : Nat) (A : Option Addr) (cap : Nat) (t b : Int) (w : World) (hs : 0 ≤ s ∧ s ≤ 255) (hl : L.length = l) (hl2 : l ≤ 9223372036854775807) (hL : ∀ x, x ∈ L → 0 ≤ x ∧ x ≤ 65535) (hx : RdW w A L) (ht : 0 ≤ t ∧ t ≤ 255) (hb : 0 ≤ b ∧ b ≤ 65535) :
    Calls Try.prog 9 #[.int .u8 s, .slice A l cap, .int .u8 t, .int .u16 b] w fun e w' => e = .returned (.bool true) ∧ Chg [] w w' := by
  obtain ⟨r1, r2⟩ := hs
  obtain ⟨r3, r4⟩ := ht
  obtain ⟨r5, r6⟩ := hb
  obtain ⟨n, Hn⟩ : ∃ n : Nat, Hid (2 + s % 3 = (n : Int)) := ⟨(2 + s % 3).toNat, Lib.hid (by omega)⟩
  have hn2 : 2 ≤ n := by have := Hn.out; omega
  have hn4 : n ≤ 4 := by have := Hn.out; omega
  obtain ⟨p, Hp⟩ : ∃ p : Nat, Hid (t % (n : Int) = (p : Int) ∧ p < n) := by
    have h1 := Int.emod_nonneg t (show (n : Int) ≠ 0 by omega)
    have h2 := Int.emod_lt_of_pos t (show (0 : Int) < (n : Int) by omega)
    exact ⟨(t % (n : Int)).toNat, Lib.hid ⟨by omega, by omega⟩⟩
  have hpn := Hp.out.2
  have Hp1 := Lib.hid Hp.out.1
  have hch : Chg [] w w := Chg.refl _ _
  have HX := Lib.hid hx
  have HMX := Lib.hid (fun u (hu : RdW u A L) => matrix_any n n L l A cap u (by omega) (by omega) (by omega) (by omega) hl hl2 hL hu)
  have HSG := Lib.hid (fun u => lsigned_any b u r5 r6)
  clear hl hL hx r5 r6
  go_enter Try.func9, Try.ntmps9
  go_wp2_with fail
  rw [Hn.out]
  refine (HMX.out _ (HX.out.keep0 hch)).mono ?_
  rintro e w1 ⟨ga, ca, M, h1, c1', rfl, hD, hV, _, _, c1⟩
  replace hch := hch.then c1
  have hM := hD.mtx hV.len hV.row
  have HV := Lib.hid hV
  clear c1 hD hV
  have HM := Lib.hid hM
  have HCH1 := Lib.hid hch
  clear hM hch
  go_wp2_with fail
  refine (HMX.out _ (HX.out.keep0 HCH1.out)).mono ?_
  rintro e w2 ⟨gb, cb, Mb, h, c, rfl, hD, hV, hgb, hge, c1⟩
  have HGE := Lib.hid hge
  have HVB := Lib.hid hV
  clear hV hge
  go_wp2_with fail
  rw [Hp1.out]
  refine (HSG.out _).mono ?_
  rintro e w3 ⟨z, rfl, hz, c2⟩
  obtain ⟨f, HF⟩ := name_it (sgnQ b)
  rw [HF.out] at hz
  have HZ := Lib.hid hz
  have c3 : Chg [] w3 (w3.alloc (.cells #[.bool z.neg, .string z.num, .string z.den] 35)) := (Chg.refl _ _).alloc _
  have b3 := Blk3.alloc w3 (.bool z.neg) (.string z.num) (.string z.den) 35
  have hblt : Hid (h p < w3.heap.size) := Lib.hid (by have := (hD.nums hpn).lt; have := c2.size; omega)
  have hc1 := (c1.then c2).then c3
  have hD3 := (hD.keep0 c2).keep0 c3
  obtain ⟨gz, HGZ⟩ := name_it w3.heap.size
  rw [HGZ.out] at b3 hblt
  have hHD := hD3.hdr
  have HIJ := Lib.hid hD3.inj
  have HOF := Lib.hid hD3.off
  have hPO : Pool (w3.alloc (.cells #[.bool z.neg, .string z.num, .string z.den] 35)) Mb h c n (fun i => i = p) := ⟨fun i hi _ => hD3.nums hi⟩
  have hN := hD3.nums hpn
  have hcel := hD3.cel hpn
  have R1 := Lib.hid (HVB.out.at_ hpn)
  obtain ⟨y, HY⟩ := name_it (Mb.getD p [])
  rw [HY.out] at hN R1
  have hyl := Lib.hid R1.out.len
  have j1 : (0 : Int) ≤ (p : Int) := by omega
  have j2 : (p : Int) < (n : Int) := by omega
  clear c1 c2 c3 hD hD3 hz
  have b3c0 := b3.c0
  have b3c1 := b3.c1
  have b3c2 := b3.c2
  have b3f0 := b3.f0
  have b3f1 := b3.f1
  have b3f2 := b3.f2
  have b3l := b3.lt
  have hcelc := hcel.c
  go_wp2_with fail
  clear b3c0 b3c1 b3c2 b3f0 b3f1 b3f2 b3l hcelc
  rw [HGZ.out]
  clear hcel
  go_loopw [45] (fun kv wx => ∃ (k : Nat) (zs : List Q3), k ≤ n ∧ kv = .int .i64 k ∧ zs.length = n ∧ (∀ j, j < k → Val (zs.getD j q0) (f * mtxQ n L p j) 2) ∧ (∀ j, k ≤ j → zs.getD j q0 = y.getD j q0) ∧ Nums wx (h p) (c p) zs ∧ Blk3 wx gz (.bool z.neg) (.string z.num) (.string z.den) ∧ Hdr wx gb cb (hdrs h c n n) ∧ Pool wx Mb h c n (fun i => i = p) ∧ Chg [] w1 wx) (fun kv _ => n - (intOf kv).toNat)
  case atStart => exact ⟨0, y, Nat.zero_le _, rfl, hyl.out, fun j h => absurd h (by omega), fun j _ => rfl, hN, b3, hHD, hPO, hc1⟩
  case round =>
    clear hN b3 hHD hPO hc1
    obtain ⟨k, zs, hk, rfl, hzl, hval, hrest, hN, b3, hH, hP, hch⟩ := hrel
    have HZL := Lib.hid hzl
    have HVAL := Lib.hid hval
    have HREST := Lib.hid hrest
    clear hzl hval hrest
    by_cases hkn : k < n
    · have e1 := hN.el (j := k) (by rw [HZL.out]; exact hkn)
      rw [HREST.out k (Nat.le_refl _)] at e1
      have v1 := R1.out.val k hkn
      obtain ⟨z0, HZ0⟩ := name_it (y.getD k q0)
      rw [HZ0.out] at e1 v1
      obtain ⟨u, HU⟩ := name_it (mtxQ n L p k)
      rw [HU.out] at v1
      have j5 : (0 : Int) ≤ (k : Int) := by omega
      have j6 : (k : Int) < (n : Int) := by omega
      have hci : Cel wr gb p (.slice (some ⟨h p, 0, none⟩) n (c p)) := ⟨hH.lt, by rw [hH.cell (by rw [hdrs_length]; exact hpn), hdrs_get h c n hpn]⟩
      have d1 : decide ((k : Int) < (n : Int)) = true := decide_eq_true (by omega)
      have s3 := hN.frozen (k * 3)
      have s4 := hN.frozen (k * 3 + 1)
      have s5 := hN.frozen (k * 3 + 2)
      clear hk
      have b3c0 := b3.c0
      have b3c1 := b3.c1
      have b3c2 := b3.c2
      have b3f0 := b3.f0
      have b3f1 := b3.f1
      have b3f2 := b3.f2
      have b3l := b3.lt
      have e1a := e1.a
      have e1b := e1.b
      have e1c := e1.c
      have hcic := hci.c
      go_wp2_with fail
      clear b3c0 b3c1 b3c2 b3f0 b3f1 b3f2 b3l e1a e1b e1c hcic
      have c8 : Chg [] wr wr.drew := (Chg.refl _ _).drew
      replace hH := hH.keep c8 (by simp)
      replace b3 := b3.keep c8 (by simp)
      replace hN := hN.keep c8 (by simp)
      replace e1 := e1.keep0 c8
      replace hci := hci.keep0 c8
      replace hP := hP.keep0 c8
      replace hch := hch.then c8
      clear c8
      have s3 := hN.frozen (k * 3)
      have s4 := hN.frozen (k * 3 + 1)
      have s5 := hN.frozen (k * 3 + 2)
      have b3c0 := b3.c0
      have b3c1 := b3.c1
      have b3c2 := b3.c2
      have b3f0 := b3.f0
      have b3f1 := b3.f1
      have b3f2 := b3.f2
      have b3l := b3.lt
      have e1a := e1.a
      have e1b := e1.b
      have e1c := e1.c
      have hcic := hci.c
      go_region_with (first
          | (go_at_call 33
             (with_reducible refine (MultiplyN z z0 f u 1 1 _ HZ.out.num v1.num (by omega)).mono ?_)
             rintro e w9 ⟨z2, rfl, hz2, c9⟩
             clear b3c0 b3c1 b3c2 b3f0 b3f1 b3f2 b3l e1a e1b e1c hcic
             replace hH := hH.keep c9 (by simp)
             replace b3 := b3.keep c9 (by simp)
             replace hN := hN.keep c9 (by simp)
             replace e1 := e1.keep0 c9
             replace hci := hci.keep0 c9
             replace hP := hP.keep0 c9
             replace hch := hch.then c9
             clear c9
             have s3 := hN.frozen (k * 3)
             have s4 := hN.frozen (k * 3 + 1)
             have s5 := hN.frozen (k * 3 + 2)
             have b3c0 := b3.c0
             have b3c1 := b3.c1
             have b3c2 := b3.c2
             have b3f0 := b3.f0
             have b3f1 := b3.f1
             have b3f2 := b3.f2
             have b3l := b3.lt
             have e1a := e1.a
             have e1b := e1.b
             have e1c := e1.c
             have hcic := hci.c
             skip))
      all_goals
        have HNX := Lib.hid (nums_set (P := fun j z => Val z (f * mtxQ n L p j) 2) (z := z2) (by rw [HZL.out]; exact hkn) HVAL.out (by rw [HU.out]; exact hz2))
        have hgp := HGE.out p hpn
        go_wp2_with fail
        go_roundw
        case rel => exact ⟨k + 1, zs.set k z2, by omega, by go_num, by rw [List.length_set]; exact HZL.out, HNX.out, fun j hj => by rw [getD_setM zs q0 z2 (by rw [HZL.out]; omega), if_neg (by omega)]; exact HREST.out j (by omega), hN.store (by rw [HZL.out]; omega) z2, b3.sto (by have := hblt.out; omega) _ _ _, hH.keep ((Chg.refl [h p] _).store3o (.inl (by simp)) _ _ _) (by simpa using Ne.symm (HOF.out p hpn)), hP.keep ((Chg.refl [h p] _).store3o (.inl (by simp)) _ _ _) (fun i hi hx => by simp; exact fun e => hx (HIJ.out _ _ hi hpn e)), hch.store3o (.inr hgp) _ _ _⟩
        case measure => simp [intOf]; omega
    · obtain rfl : n = k := by omega
      have hzr : Row1 zs (fun j => f * mtxQ n L p j) n 2 := ⟨HZL.out, HVAL.out⟩
      have hVB2 : Vals (Mb.set p zs) (fun i j => if i = p then f * mtxQ n L i j else mtxQ n L i j) n n 2 := by
        have hrow : ∀ i, i < n → Row1 ((Mb.set p zs).getD i []) (fun j => if i = p then f * mtxQ n L i j else mtxQ n L i j) n 2 := fun i hi => by
          rw [getD_setM Mb [] zs (by rw [HVB.out.len]; exact hpn)]
          by_cases e : i = p
          · subst e; simp only [if_true]; exact hzr
          · simp only [if_neg e]; exact (HVB.out.at_ hi).mono (by omega)
        exact ⟨by rw [List.length_set]; exact HVB.out.len, fun i hi => (hrow i hi).len, fun i hi => (hrow i hi).val⟩
      have hDB : MutD wr gb cb (Mb.set p zs) h c n n := ⟨hH, ⟨fun i hi _ => by
        rw [getD_setM Mb [] zs (by rw [HVB.out.len]; exact hpn)]
        by_cases e : i = p
        · rw [if_pos e, e]; exact hN
        · rw [if_neg e]; exact hP.row i hi e⟩, HIJ.out, HOF.out⟩
      have hMB := hDB.mtx hVB2.len hVB2.row
      obtain ⟨Mb2, HMB2⟩ := name_it (Mb.set p zs)
      rw [HMB2.out] at hMB hVB2
      have HVB2 := Lib.hid hVB2
      have hM := HM.out.keep0 hch
      have hch0 := HCH1.out.then hch
      clear hH hP hN hzr hDB hVB2 hch
      go_wp2_with fail
      refine (HMX.out _ (HX.out.keep0 hch0)).mono ?_
      rintro e w4 ⟨gc, cc, Mc, h3, c3, rfl, hD, hV, hgc, hgd, c1⟩
      have HV4 := Lib.hid hV
      have HRC := Lib.hid c1
      have HMW := Lib.hid hM
      have HMBW := Lib.hid hMB
      have HCH0 := Lib.hid hch0
      clear hM hMB hch0 c1 hV hgd
      go_wp2_with fail
      go_cut [15] (fun cv wx => ∃ Mc2, cv = .slice (some ⟨gc, 0, none⟩) n cc ∧ Mtx wx (some ⟨gc, 0, none⟩) Mc2 ∧ Vals Mc2 (swp (mtxQ n L) 0 1) n n 1 ∧ Mtx wx (some ⟨ga, 0, none⟩) M ∧ Mtx wx (some ⟨gb, 0, none⟩) Mb2 ∧ Blk3 wx gz (.bool z.neg) (.string z.num) (.string z.den) ∧ Chg [] w wx)
      case first =>
        have hcel0 := hD.cel (i := 0) (by omega)
        have hcel1 := hD.cel (i := 1) (by omega)
        have fz0 := hD.hdr.frozen 0
        have fz1 := hD.hdr.frozen 1
        have hH := (hD.hdr.store 0 (.slice (some ⟨h3 1, 0, none⟩) n (c3 1))).store 1 (.slice (some ⟨h3 0, 0, none⟩) n (c3 0))
        rw [hdrs_set, hdrs_set] at hH
        have cs : Chg [gc] w4 ((w4.setCell ⟨gc, 0, none⟩ (.slice (some ⟨h3 1, 0, none⟩) n (c3 1))).setCell ⟨gc, 1, none⟩ (.slice (some ⟨h3 0, 0, none⟩) n (c3 0))) := ((Chg.refl [gc] w4).setCell (.inl (by simp)) _).setCell (.inl (by simp)) _
        have hDC := MutD.swapped (h := h3) (c := c3) (r := 1) (p := 0) (zs := Mc.getD 0 []) hH ⟨fun i hi _ => (hD.nums hi).keep cs (by simpa using hD.off i hi)⟩ ((hD.nums (by omega)).keep cs (by simpa using hD.off 0 (by omega))) hD.inj hD.off (by omega) (by omega) HV4.out.len
        have hVC := HV4.out.swap (r := 0) (p := 1) (by omega) (by omega)
        have HMC := Lib.hid (hDC.mtx hVC.len hVC.row)
        have HVC := Lib.hid hVC
        have cf := HRC.out.fresh cs hgc
        have HMA := Lib.hid (HMW.out.keep0 cf)
        have HMB5 := Lib.hid (HMBW.out.keep0 cf)
        have HB5 := Lib.hid (b3.keep cf (by simp))
        have HCH := Lib.hid (HCH0.out.then cf)
        have i1 : (0 : Int) < (n : Int) := by omega
        have i2 : (1 : Int) < (n : Int) := by omega
        clear hDC hVC cs cf hH b3 hD
        have hcel0c := hcel0.c
        have hcel1c := hcel1.c
        go_region
        go_wp2_with fail
        go_meet
        exact ⟨_, rfl, HMC.out.keep0 ((Chg.refl [] _).drew), HVC.out, HMA.out.keep0 ((Chg.refl [] _).drew), HMB5.out.keep0 ((Chg.refl [] _).drew), HB5.out.keep ((Chg.refl [] _).drew) (by simp), HCH.out.drew⟩
      case rest =>
        clear b3 hD
        obtain ⟨Mc2, rfl, hMC, hVC, hMA, hMB, b3, hch⟩ := hcut
        have HVC := Lib.hid hVC
        clear hVC
        go_wp2_with fail
        refine (det_vals M (mtxQ n L) ga ca n 1 _ HV.out hn2 hn4 (by omega) (by omega) hMA).mono ?_
        rintro e w6 ⟨za, rfl, hza, c6⟩
        have HZA := Lib.hid hza
        have ca6 : Chg [] w6 (w6.alloc (.cells #[.bool za.neg, .string za.num, .string za.den] 35)) := (Chg.refl _ _).alloc _
        have ba := Blk3.alloc w6 (.bool za.neg) (.string za.num) (.string za.den) 35
        replace hMB := (hMB.keep0 c6).keep0 ca6
        replace hMC := (hMC.keep0 c6).keep0 ca6
        replace b3 := (b3.keep c6 (by simp)).keep ca6 (by simp)
        replace hch := (hch.then c6).then ca6
        clear c6 ca6 hza hMA
        go_wp2_with fail
        refine (det_vals Mb2 _ gb cb n 2 _ HVB2.out hn2 hn4 (by omega) (by omega) hMB).mono ?_
        rintro e w7 ⟨zb, rfl, hzb, c6⟩
        have ca6 : Chg [] w7 (w7.alloc (.cells #[.bool zb.neg, .string zb.num, .string zb.den] 35)) := (Chg.refl _ _).alloc _
        have bb := Blk3.alloc w7 (.bool zb.neg) (.string zb.num) (.string zb.den) 35
        rw [detF_mul (f := mtxQ n L) (p := p) (q := f) hn2 hn4 hpn (fun i _ j _ => by by_cases e : i = p <;> simp [e])] at hzb
        have HZB := Lib.hid hzb
        replace hMC := (hMC.keep0 c6).keep0 ca6
        replace b3 := (b3.keep c6 (by simp)).keep ca6 (by simp)
        replace ba := (ba.keep c6 (by simp)).keep ca6 (by simp)
        replace hch := (hch.then c6).then ca6
        clear c6 ca6 hzb hMB
        go_wp2_with fail
        refine (det_vals Mc2 _ gc cc n 1 _ HVC.out hn2 hn4 (by omega) (by omega) hMC).mono ?_
        rintro e w8 ⟨zc, rfl, hzc, c6⟩
        have ca6 : Chg [] w8 (w8.alloc (.cells #[.bool zc.neg, .string zc.num, .string zc.den] 35)) := (Chg.refl _ _).alloc _
        have bc := Blk3.alloc w8 (.bool zc.neg) (.string zc.num) (.string zc.den) 35
        rw [detF_swap (f := mtxQ n L) hn2 hn4 (fun i _ j _ => by rw [swp_sw])] at hzc
        have HZC := Lib.hid hzc
        replace b3 := (b3.keep c6 (by simp)).keep ca6 (by simp)
        replace ba := (ba.keep c6 (by simp)).keep ca6 (by simp)
        replace bb := (bb.keep c6 (by simp)).keep ca6 (by simp)
        replace hch := (hch.then c6).then ca6
        clear c6 ca6 hzc hMC
        go_wp2_with fail
        obtain ⟨w9, HW9⟩ := name_it (w8.alloc (.cells #[.bool zc.neg, .string zc.num, .string zc.den] 35))
        rw [HW9.out] at b3 ba bb bc hch ⊢
        obtain ⟨g6, HG6⟩ := name_it w6.heap.size
        obtain ⟨g7, HG7⟩ := name_it w7.heap.size
        obtain ⟨g8, HG8⟩ := name_it w8.heap.size
        rw [HG6.out, HG7.out, HG8.out]
        rw [HG6.out] at ba
        rw [HG7.out] at bb
        rw [HG8.out] at bc
        have c8 : Chg [] w9 w9.drew := (Chg.refl _ _).drew
        replace b3 := b3.keep c8 (by simp)
        replace ba := ba.keep c8 (by simp)
        replace bb := bb.keep c8 (by simp)
        replace bc := bc.keep c8 (by simp)
        replace hch := hch.then c8
        clear c8
        have HMU := Lib.hid (fun u => MultiplyN z za f (detF (mtxQ n L) n) 1 100000 u HZ.out.num HZA.out.num (by omega))
        have HNE := Lib.hid (fun u => NegateN za (detF (mtxQ n L) n) 100000 u HZA.out.num (by omega))
        clear HX HMX HSG HM HCH1 HGE HVB HZL HVAL HREST HIJ HOF R1 HVB2 HV4 HRC HMW HMBW HCH0 HVC
        go_region_held3 (fun w' => w'.cell? ⟨gz, 0, none⟩ = some (.bool z.neg) ∧ w'.cell? ⟨gz, 1, none⟩ = some (.string z.num) ∧ w'.cell? ⟨gz, 2, none⟩ = some (.string z.den) ∧ w'.cell? ⟨g6, 0, none⟩ = some (.bool za.neg) ∧ w'.cell? ⟨g6, 1, none⟩ = some (.string za.num) ∧ w'.cell? ⟨g6, 2, none⟩ = some (.string za.den) ∧ w'.cell? ⟨g7, 0, none⟩ = some (.bool zb.neg) ∧ w'.cell? ⟨g7, 1, none⟩ = some (.string zb.num) ∧ w'.cell? ⟨g7, 2, none⟩ = some (.string zb.den) ∧ w'.cell? ⟨g8, 0, none⟩ = some (.bool zc.neg) ∧ w'.cell? ⟨g8, 1, none⟩ = some (.string zc.num) ∧ w'.cell? ⟨g8, 2, none⟩ = some (.string zc.den)) (first | exact ⟨b3.c0, b3.c1, b3.c2, ba.c0, ba.c1, ba.c2, bb.c0, bb.c1, bb.c2, bc.c0, bc.c1, bc.c2⟩) (first
          | (go_at_call 19
             (with_reducible refine (awake3_any _).mono ?_)
             rintro e w10 ⟨rfl, c10⟩
             replace b3 := b3.keep c10 (by simp)
             replace ba := ba.keep c10 (by simp)
             replace bb := bb.keep c10 (by simp)
             replace bc := bc.keep c10 (by simp)
             replace hch := hch.then c10
             clear c10
             skip)
          | (go_at_call 33
             (with_reducible refine (HMU.out _).mono ?_)
             rintro e w10 ⟨z9, rfl, hz9, c10⟩
             have e9 : z9 = zb := hz9.unique HZB.out
             rw [e9]
             clear e9 hz9
             replace b3 := b3.keep c10 (by simp)
             replace ba := ba.keep c10 (by simp)
             replace bb := bb.keep c10 (by simp)
             replace bc := bc.keep c10 (by simp)
             replace hch := hch.then c10
             clear c10
             skip)
          | (go_at_call 36
             (with_reducible refine (HNE.out _).mono ?_)
             rintro e w10 ⟨z8, rfl, hz8, c10⟩
             have e8 : z8 = zc := hz8.unique HZC.out
             rw [e8]
             clear e8 hz8
             replace b3 := b3.keep c10 (by simp)
             replace ba := ba.keep c10 (by simp)
             replace bb := bb.keep c10 (by simp)
             replace bc := bc.keep c10 (by simp)
             replace hch := hch.then c10
             clear c10
             skip))
        all_goals
          go_wp2_with fail
          go_ret
          exact ⟨rfl, hch⟩
end Go.Proofs.Ytgdidakkfdcajaa
