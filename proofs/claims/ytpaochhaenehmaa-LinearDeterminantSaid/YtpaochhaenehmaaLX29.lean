/-
  The reference's Determinant.
-/
import Derived.Test.YtpaochhaenehmaaLX27
import Derived.Test.YtpaochhaenehmaaLM6
import Derived.Test.YtpaochhaenehmaaLA24
namespace Go.Proofs.Ytpaochhaenehmaa
open Go.RowKit Nd

/-- The determinant's sign and product after c steps. -/
def sgP (F : Nat → Nat → Rat) (n c : Nat) : Rat := if gS F n c then -(gP F n c) else gP F n c
theorem sgP_same {F : Nat → Nat → Rat} {n c : Nat} (h : gp F n c = c) : sgP F n (c + 1) = sgP F n c * gau F n c (gp F n c) c := by
  unfold sgP
  rw [gS, if_pos h, gP]
  split <;> grind
theorem sgP_swap {F : Nat → Nat → Rat} {n c : Nat} (h : gp F n c ≠ c) : sgP F n (c + 1) = -(sgP F n c) * gau F n c (gp F n c) c := by
  unfold sgP
  rw [gS, if_neg h, gP]
  cases gS F n c <;> simp <;> grind
theorem x29sub0 (x : Rat) : x - 0 = x := by grind
theorem val_one : Val ⟨false, ⟨#[1]⟩, ⟨#[]⟩⟩ 1 1 := ⟨Enc_iff.2 ⟨by decide +kernel, by decide +kernel⟩, ⟨by decide, by decide⟩⟩
theorem swp_self (f : Nat → Nat → Rat) (c : Nat) : swp f c c = f := by
  funext i
  unfold swp
  by_cases h : i = c
  · rw [if_pos h, h]
  · rw [if_neg h, if_neg h]
theorem swp_comm (f : Nat → Nat → Rat) (c p : Nat) : swp f p c = swp f c p := by
  funext i
  unfold swp
  by_cases h : i = c
  · by_cases h2 : i = p
    · rw [if_pos h2, if_pos h, ← h, ← h2]
    · rw [if_neg h2, if_pos h, if_pos h]
  · by_cases h2 : i = p
    · rw [if_pos h2, if_neg h, if_pos h2]
    · rw [if_neg h2, if_neg h, if_neg h, if_neg h2]
theorem MutD.st3 {w : World} {g cap k : Nat} {M : List (List Q3)} {h c : Nat → Nat} {n m : Nat} (H : MutD w g cap M h c n m) (hg : g ≠ k) (hh : ∀ t, t < n → h t ≠ k) (x y z : Value) : MutD (((w.setCell ⟨k, 0, none⟩ x).setCell ⟨k, 1, none⟩ y).setCell ⟨k, 2, none⟩ z) g cap M h c n m :=
  have cs : Chg [k] w (((w.setCell ⟨k, 0, none⟩ x).setCell ⟨k, 1, none⟩ y).setCell ⟨k, 2, none⟩ z) := (Chg.refl [k] w).store3 (.inl (by simp)) x y z
  ⟨H.hdr.keep cs (by simpa using hg), ⟨fun i hi _ => (H.nums hi).keep cs (by simpa using hh i hi)⟩, H.inj, H.off⟩
/-- What holds at the head of step c. -/
structure DS (w wr : World) (g cp g6 : Nat) (F : Nat → Nat → Rat) (n k c : Nat) (M : List (List Q3)) (h cc : Nat → Nat) (d : Q3) : Prop where
  full : Full F n c
  vals : Vals M (gau F n c) n n (KR k c)
  mut_ : MutD wr g cp M h cc n n
  low : ∀ t, t < n → w.heap.size < h t ∧ h t < g6
  dv : Val d (sgP F n c) ((c + 1) * KR k n)
  box : Blk3 wr g6 (.bool d.neg) (.string d.num) (.string d.den)
  res : Blk3 wr w.heap.size (.bool false) (.string ⟨#[]⟩) (.string ⟨#[]⟩)
  chg : Chg [] w wr

set_option maxRecDepth 20000 in
set_option linter.unusedSimpArgs false in
set_option maxHeartbeats 16000000 in
theorem rDet_ok (M : List (List Q3)) (A : Option Addr) (cap : Nat) (k : Nat) (w : World) (hx : Mtx w A M) (hs : shapeE M = 0) (hl : M.length = (M.getD 0 []).length) (hk : 1 ≤ k) (hk2 : k ≤ 3000) (hb : (M.length + 2) * KR k M.length ≤ 4294967296) (hfit : ∀ i, i < M.length → ∀ j, j < (M.getD 0 []).length → fits ((M.getD i []).getD j q0) k) :
    Calls Try.prog 9 #[.slice A M.length cap] w fun e w' => ∃ z, e = .returned (.tuple #[.agg #[.bool z.neg, .string z.num, .string z.den], .int .i64 0]) ∧ Val z (detF (matQ M) M.length) ((M.length + 1) * KR k M.length) ∧ Chg [] w w' := by
  obtain ⟨s0, s1, s2, s3, s4⟩ := shapeE_ok hs
  obtain ⟨ga, oa, rfl, hga⟩ := hx.form (by omega)
  have HX := Lib.hid hx
  have HSH := Lib.hid hs
  obtain ⟨F, HFQ⟩ := name_it (matQ M)
  rw [HFQ.out]
  have hr0 : (M.getD 0 []).length = M.length := hl.symm
  rw [← hl] at hfit s2
  have HFIT := Lib.hid hfit
  have HROW := Lib.hid s2
  obtain ⟨r0, HR⟩ := name_it (M.getD 0 [])
  rw [HR.out] at hr0
  obtain ⟨n, HN⟩ := name_it M.length
  rw [HN.out] at s0 s3 hb hr0 HFIT HROW
  rw [HN.out]
  have HB := Lib.hid hb
  have HRL := Lib.hid hr0
  have HNO : Hid (¬ Full F n n → detF F n = 0) := Lib.hid fun h => if_neg h
  have HYES : Hid (Full F n n → detF F n = sgP F n n) := Lib.hid fun h => if_pos h
  obtain ⟨R, HRR⟩ := name_it (detF F n)
  rw [HRR.out] at HNO HYES
  rw [HRR.out]
  have HKP : Hid (1 ≤ KR k n) := Lib.hid (Nat.le_trans hk (KR_le k (Nat.zero_le n)))
  have hKR : KR k n ≤ 4294967296 := by
    have := HB.out
    rw [Nat.add_mul] at this
    omega
  have HKR := Lib.hid hKR
  clear hx hs hl s1 s2 s4 hfit hb hr0 hKR
  have hn1 : (0 : Int) < (n : Int) := by omega
  have hn0 : 0 < n := by omega
  have b1 := Blk3.alloc w (.bool false) (.string ⟨#[]⟩) (.string ⟨#[]⟩) 26
  have hch : Chg [] w (w.alloc (.cells #[.bool false, .string ⟨#[]⟩, .string ⟨#[]⟩] 26)) := (Chg.refl _ _).alloc _
  have hgl := b1.lt
  go_enter Try.func9, Try.ntmps9
  go_wp2_with fail
  rw [← HN.out]
  refine (rshape_any M _ cap _ (by rw [HN.out]; omega) (HX.out.keep0 hch)).mono ?_
  rintro e w1 ⟨rfl, c1⟩
  rw [HSH.out, HN.out]
  replace b1 := b1.keep c1 (by simp)
  replace hch := hch.then c1
  clear c1
  obtain ⟨Br, cr, hc, _, _, _⟩ := (HX.out.keep0 hch).row (i := 0) (by rw [HN.out]; omega)
  rw [HR.out, HRL.out] at hc
  have hcc := hc.c
  try rw [Nat.add_zero] at hcc
  go_wp2_with fail
  refine (rfixedRows_mut M _ n n cap k _ HN.out HROW.out hn0 hn0 (by omega) (by omega) hk (by omega) HFIT.out (HX.out.keep0 hch)).mono ?_
  rintro e w2 ⟨g, cp, M1, h, cc, rfl, hD, hV, hg, hh, c1⟩
  rw [HFQ.out] at hV
  have hb1lt := b1.lt
  replace b1 := b1.keep c1 (by simp)
  replace hch := hch.then c1
  clear c1 hc hcc
  go_wp2_with fail
  refine (rOne_any _).mono ?_
  rintro e w3 ⟨rfl, c1⟩
  have c2 : Chg [] w3 (w3.alloc (.cells #[.bool false, .string ⟨#[1]⟩, .string ⟨#[]⟩] 26)) := (Chg.refl _ _).alloc _
  have b6 := Blk3.alloc w3 (.bool false) (.string ⟨#[1]⟩) (.string ⟨#[]⟩) 26
  have hD1 := (hD.keep0 c1).keep0 c2
  have hgl1 := (hD.keep0 c1).hdr.lt
  have hlow : ∀ t, t < n → w.heap.size < h t ∧ h t < w3.heap.size := fun t ht => ⟨by have := hh t ht; omega, ((hD.keep0 c1).nums ht).lt⟩
  replace b1 := (b1.keep c1 (by simp)).keep c2 (by simp)
  replace hch := (hch.then c1).then c2
  obtain ⟨g6, HG6⟩ := name_it w3.heap.size
  rw [HG6.out] at b6 hlow hgl1
  have hS : Hid (DS w (w3.alloc (.cells #[.bool false, .string ⟨#[1]⟩, .string ⟨#[]⟩] 26)) g cp g6 F n k 0 M1 h cc ⟨false, ⟨#[1]⟩, ⟨#[]⟩⟩) := Lib.hid
    ⟨fun d h => absurd h (by omega), hV, hD1, hlow, by
      have : sgP F n 0 = 1 := by unfold sgP; rw [gS, gP]; rfl
      rw [this]
      exact val_one.mono (by rw [Nat.zero_add, Nat.one_mul]; exact HKP.out), b6, b1, hch⟩
  have hgw : w.heap.size < g := by omega
  have hg6 : w.heap.size < g6 := by omega
  clear c1 c2 hD hD1 hV hlow b1 b6 hch hg hh hb1lt
  go_wp2_with fail
  rw [HG6.out]
  clear hgl
  go_loopw [7] (fun cv wr => ∃ (c : Nat) (M1 : List (List Q3)) (h cc : Nat → Nat) (d : Q3), c ≤ n ∧ cv = .int .i64 c ∧ DS w wr g cp g6 F n k c M1 h cc d) (fun cv _ => n - (intOf cv).toNat)
  case atStart => exact ⟨0, M1, h, cc, _, Nat.zero_le _, rfl, hS.out⟩
  case round =>
    clear hS
    obtain ⟨c, M1, h, cc, d, hc, rfl, hS⟩ := hrel
    have HFL := Lib.hid hS.full
    have HV1 := Lib.hid hS.vals
    have HLOW := Lib.hid hS.low
    have HDV := Lib.hid hS.dv
    have hD := hS.mut_
    have b6 := hS.box
    have b1 := hS.res
    have hch := hS.chg
    clear hS
    have HKC := Lib.hid (KR_le k hc)
    by_cases hcn : c < n
    · have HCH := Lib.hid hch
      have HB6 := Lib.hid b6
      have HB1 := Lib.hid b1
      have HEN := Lib.hid hD
      have EN := Lib.hid (gp_le (f := F) (n := n) hc)
      have HZL := Lib.hid (gau_zero c hc HFL.out)
      obtain ⟨f, Hf⟩ := name_it (gau F n c)
      rw [Hf.out] at HV1 HZL
      have HGP : Hid (gp F n c = pivR f n c c) := Lib.hid (by rw [← Hf.out]; rfl)
      obtain ⟨K, HK⟩ := name_it (KR k c)
      rw [HK.out] at HV1 HKC
      have HKS : Hid (KR k (c + 1) = 4 * K + 1) := Lib.hid (by show 4 * KR k c + 1 = _; rw [HK.out])
      have hc0 := hD.cel (i := 0) hn0
      clear hD b6 b1 hch
      go_wp2_with fail
      go_loopw [8] (fun sv wr => ∃ (p : Nat), c ≤ p ∧ p ≤ n ∧ sv = .int .i64 p ∧ (∀ t, c ≤ t → t < p → f t c = 0) ∧ MutD wr g cp M1 h cc n n ∧ Blk3 wr g6 (.bool d.neg) (.string d.num) (.string d.den) ∧ Blk3 wr w.heap.size (.bool false) (.string ⟨#[]⟩) (.string ⟨#[]⟩) ∧ Chg [] w wr) (fun sv _ => n - (intOf sv).toNat)
      case atStart => exact ⟨c, Nat.le_refl _, hc, rfl, fun t h1 h2 => absurd h1 (by omega), HEN.out, HB6.out, HB1.out, HCH.out⟩
      case round =>
        clear hc0 HEN HB6 HB1 HCH
        obtain ⟨p, hcp, hp, rfl, hz, hD, b6, b1, hch⟩ := hrel
        have HZ := Lib.hid hz
        clear hz
        by_cases hpn : p < n
        · have hcel := hD.cel hpn
          have hN := hD.nums hpn
          have R1 := Lib.hid (HV1.out.at_ hpn)
          obtain ⟨y, HY⟩ := name_it (M1.getD p [])
          rw [HY.out] at hN R1
          have hyl := Lib.hid R1.out.len
          have e1 := hN.el (j := c) (by rw [hyl.out]; exact hcn)
          have vx := R1.out.val c hcn
          obtain ⟨x, HX2⟩ := name_it (y.getD c q0)
          rw [HX2.out] at e1 vx
          obtain ⟨q, HQ⟩ := name_it (f p c)
          rw [HQ.out] at vx
          have j1 : (0 : Int) ≤ (p : Int) := by omega
          have j2 : (p : Int) < (n : Int) := by omega
          have j3 : (0 : Int) ≤ (c : Int) := by omega
          have j4 : (c : Int) < (n : Int) := by omega
          by_cases hq : q = 0
          · have hx0 := vx.zz hq
            have HQ0 : Hid (f p c = 0) := Lib.hid (by rw [HQ.out]; exact hq)
            clear hq hN vx
            have e1a := e1.a
            have e1b := e1.b
            have e1c := e1.c
            have hcelc := hcel.c
            go_wp2_with fail
            go_roundw
            case rel => exact ⟨p + 1, by omega, by omega, by go_num, all_from HZ.out HQ0.out, hD, b6, b1, hch⟩
            case measure => simp [intOf]; omega
          · have hx0 := vx.nz hq
            have HQ0 : Hid (f p c ≠ 0) := Lib.hid (by rw [HQ.out]; exact hq)
            have VX := Lib.hid vx
            have hpe : ((p : Int) == (n : Int)) = false := by simp; omega
            have HPI : Hid (gp F n c = p) := Lib.hid (by rw [HGP.out]; exact pivR_is hcp hpn HQ0.out HZ.out)
            have HFL2 : Hid (Full F n (c + 1)) := Lib.hid (HFL.out.succ (by rw [HPI.out]; exact hpn))
            clear hq vx
            -- the exchange
            have e1a := e1.a
            have e1b := e1.b
            have e1c := e1.c
            have hcelc := hcel.c
            go_upto_if 61 with fail
            clear e1a e1b e1c hcelc
            go_cut [8] (fun pv wx => pv = .int .i64 p ∧ ∃ (M2 : List (List Q3)) (h2 c2 : Nat → Nat) (d2 : Q3), Vals M2 (swp f c p) n n K ∧ MutD wx g cp M2 h2 c2 n n ∧ (∀ t, t < n → w.heap.size < h2 t ∧ h2 t < g6) ∧ (∃ s, Val d2 s ((c + 1) * KR k n) ∧ sgP F n (c + 1) = s * q) ∧ Blk3 wx g6 (.bool d2.neg) (.string d2.num) (.string d2.den) ∧ Blk3 wx w.heap.size (.bool false) (.string ⟨#[]⟩) (.string ⟨#[]⟩) ∧ Chg [] w wx)
            case first =>
              by_cases hpc : p = c
              · have d1 : ((p : Int) != (c : Int)) = false := by simp [hpc]
                have HRES : Hid (Vals M1 (swp f c p) n n K ∧ ∃ s, Val d s ((c + 1) * KR k n) ∧ sgP F n (c + 1) = s * q) := Lib.hid ⟨by
                  rw [hpc, swp_self]; exact HV1.out, _, HDV.out, by
                  have := sgP_same (F := F) (n := n) (c := c) (by rw [HPI.out]; exact hpc)
                  rw [HPI.out, Hf.out, HQ.out] at this; exact this⟩
                clear hpc
                go_wp2_with fail
                go_meet
                exact ⟨rfl, M1, h, cc, d, HRES.out.1, hD, HLOW.out, HRES.out.2, b6, b1, hch⟩
              · have d1 : ((p : Int) != (c : Int)) = true := by simp; omega
                have hcr := hD.cel hcn
                have fzp := hD.hdr.frozen p
                have hH1 := hD.hdr.store p (.slice (some ⟨h c, 0, none⟩) n (cc c))
                have hs1 := hH1.cell (j := c) (by rw [List.length_set, hdrs_length]; exact hcn)
                have ft1 := hH1.frozen c
                obtain ⟨vc, HVC⟩ := name_it (((hdrs h cc n n).set p (.slice (some ⟨h c, 0, none⟩) n (cc c))).getD c (.bool false))
                rw [HVC.out] at hs1
                have hH := hH1.store c (.slice (some ⟨h p, 0, none⟩) n (cc p))
                rw [hdrs_set, hdrs_set] at hH
                have cs : Chg [g] wr ((wr.setCell ⟨g, p, none⟩ (.slice (some ⟨h c, 0, none⟩) n (cc c))).setCell ⟨g, c, none⟩ (.slice (some ⟨h p, 0, none⟩) n (cc p))) := ((Chg.refl [g] wr).setCell (.inl (by simp)) _).setCell (.inl (by simp)) _
                have HD2 := Lib.hid (MutD.swapped (h := h) (c := cc) (r := c) (p := p) (zs := M1.getD p []) hH ⟨fun i hi _ => (hD.nums hi).keep cs (by simpa using hD.off i hi)⟩ ((hD.nums hpn).keep cs (by simpa using hD.off p hpn)) hD.inj hD.off hcn hpn HV1.out.len)
                have HV2 := Lib.hid (HV1.out.swap (r := p) (p := c) hpn hcn)
                rw [swp_comm] at HV2
                have hgg6 : g ≠ g6 := by omega
                have hgw' : g ≠ w.heap.size := by omega
                have b6s := b6.keep cs (by simp; omega)
                have b1s := b1.keep cs (by simp; omega)
                have hchs := hch.fresh cs (Nat.le_of_lt hgw)
                have HLOW2 := Lib.hid (exF_all (P := fun y => w.heap.size < y ∧ y < g6) HLOW.out hcn hpn)
                have HSG := Lib.hid (sgP_swap (F := F) (n := n) (c := c) (by rw [HPI.out]; exact hpc))
                rw [HPI.out, Hf.out, HQ.out] at HSG
                clear hH hH1 hD b6 b1 hch cs hN e1
                have b6sc0 := b6s.c0
                have b6sc1 := b6s.c1
                have b6sc2 := b6s.c2
                have b6sf0 := b6s.f0
                have b6sf1 := b6s.f1
                have b6sf2 := b6s.f2
                have b6sl := b6s.lt
                have hcelc := hcel.c
                have hcrc := hcr.c
                go_wp2_with fail
                clear b6sc0 b6sc1 b6sc2 b6sf0 b6sf1 b6sf2 b6sl hcelc hcrc
                refine (rOpposite_any d _ _ _ HDV.out).mono ?_
                rintro e w5 ⟨d3, rfl, hd3, c1⟩
                have HD3 := Lib.hid hd3
                have hDk := HD2.out.keep0 c1
                replace b6s := b6s.keep c1 (by simp)
                replace b1s := b1s.keep c1 (by simp)
                replace hchs := hchs.then c1
                clear c1 hd3 hcel hcr fzp hs1 ft1
                have S := b6s.store (.bool d3.neg) (.string d3.num) (.string d3.den)
                have b1t := b1s.st2 (show w.heap.size ≠ g6 by omega) (.bool d3.neg) (.string d3.num) (.string d3.den)
                have hDt := hDk.st3 hgg6 (fun t ht => by have := (HLOW2.out t ht).2; omega) (.bool d3.neg) (.string d3.num) (.string d3.den)
                have hcht := hchs.store3 (g := g6) (.inr (Nat.le_of_lt hg6)) (.bool d3.neg) (.string d3.num) (.string d3.den)
                have b6sc0 := b6s.c0
                have b6sc1 := b6s.c1
                have b6sc2 := b6s.c2
                have b6sf0 := b6s.f0
                have b6sf1 := b6s.f1
                have b6sf2 := b6s.f2
                have b6sl := b6s.lt
                clear b1s hDk hchs
                go_wp2_with fail
                go_meet
                exact ⟨rfl, _, _, _, d3, HV2.out, hDt, HLOW2.out, ⟨_, HD3.out, HSG.out⟩, S, b1t, hcht⟩
            case rest =>
              clear hD b6 b1 hch hN e1 hcel
              obtain ⟨rfl, M2, h2, c2, d2, hV2, hD, hlow2, ⟨s, hd2, hsg⟩, b6, b1, hch⟩ := hcut
              have HV2 := Lib.hid hV2
              have HLOW2 := Lib.hid hlow2
              have HD2 := Lib.hid hd2
              have HSG := Lib.hid hsg
              have hcc := hD.cel hcn
              have hNc := hD.nums hcn
              have R2 := Lib.hid (hV2.at_ hcn)
              obtain ⟨y2, HY2⟩ := name_it (M2.getD c [])
              rw [HY2.out] at hNc R2
              have e2 := hNc.el (j := c) (by rw [R2.out.len]; exact hcn)
              have vx2 := R2.out.val c hcn
              rw [show swp f c p c c = q from by unfold swp; rw [if_pos rfl]; exact HQ.out] at vx2
              obtain ⟨x2, HX22⟩ := name_it (y2.getD c q0)
              rw [HX22.out] at e2 vx2
              have HVX2 := Lib.hid vx2
              have HKD : Hid ((c + 1) * KR k n + K ≤ (c + 1 + 1) * KR k n ∧ (c + 1 + 1) * KR k n ≤ 4294967296) := Lib.hid ⟨by rw [Nat.add_mul (c + 1) 1, Nat.one_mul]; exact Nat.add_le_add_left HKC.out _, Nat.le_trans (Nat.mul_le_mul_right _ (by omega)) HB.out⟩
              obtain ⟨KD, HKDN⟩ := name_it ((c + 1) * KR k n)
              rw [HKDN.out] at HKD HD2
              clear hV2 hlow2 hd2 hsg hNc vx2
              go_wp2_with fail
              have HMD := Lib.hid hD
              clear hD
              go_cut [8] (fun pv wx => pv = .int .i64 p ∧ ∃ (d3 : Q3), Val d3 (sgP F n (c + 1)) ((c + 1 + 1) * KR k n) ∧ MutD wx g cp M2 h2 c2 n n ∧ Blk3 wx g6 (.bool d3.neg) (.string d3.num) (.string d3.den) ∧ Blk3 wx w.heap.size (.bool false) (.string ⟨#[]⟩) (.string ⟨#[]⟩) ∧ Chg [] w wx)
              case first =>
                have hDm := HMD.out
                have c8 : Chg [] wc wc.drew := (Chg.refl _ _).drew
                replace b6 := b6.keep c8 (by simp)
                replace b1 := b1.keep c8 (by simp)
                replace e2 := e2.keep0 c8
                replace hcc := hcc.keep0 c8
                replace hDm := hDm.keep0 c8
                replace hch := hch.then c8
                clear c8
                have b6c0 := b6.c0
                have b6c1 := b6.c1
                have b6c2 := b6.c2
                have b6f0 := b6.f0
                have b6f1 := b6.f1
                have b6f2 := b6.f2
                have b6l := b6.lt
                have e2a := e2.a
                have e2b := e2.b
                have e2c := e2.c
                have hccc := hcc.c
                go_region_with (first
                  | (go_at_call 31
                     (with_reducible refine (rTimes_any d2 x2 s q KD K _ HD2.out HVX2.out (by have := HKD.out; omega)).mono ?_)
                     rintro e w9 ⟨d3, rfl, hd3, c1⟩
                     have HD3 := Lib.hid hd3
                     clear b6c0 b6c1 b6c2 b6f0 b6f1 b6f2 b6l e2a e2b e2c hccc
                     replace b6 := b6.keep c1 (by simp)
                     replace b1 := b1.keep c1 (by simp)
                     replace e2 := e2.keep0 c1
                     replace hcc := hcc.keep0 c1
                     replace hDm := hDm.keep0 c1
                     replace hch := hch.then c1
                     clear c1
                     clear hd3
                     have b6c0 := b6.c0
                     have b6c1 := b6.c1
                     have b6c2 := b6.c2
                     have b6f0 := b6.f0
                     have b6f1 := b6.f1
                     have b6f2 := b6.f2
                     have b6l := b6.lt
                     have e2a := e2.a
                     have e2b := e2.b
                     have e2c := e2.c
                     have hccc := hcc.c
                     skip)
                  | fail)
                all_goals
                  clear b6c0 b6c1 b6c2 b6f0 b6f1 b6f2 b6l e2a e2b e2c hccc
                  have S := b6.store (.bool d3.neg) (.string d3.num) (.string d3.den)
                  have b1t := b1.st2 (show w.heap.size ≠ g6 by omega) (.bool d3.neg) (.string d3.num) (.string d3.den)
                  have hDt := hDm.st3 (show g ≠ g6 by omega) (fun t ht => by have := (HLOW2.out t ht).2; omega) (.bool d3.neg) (.string d3.num) (.string d3.den)
                  have hcht := hch.store3 (g := g6) (.inr (Nat.le_of_lt hg6)) (.bool d3.neg) (.string d3.num) (.string d3.den)
                  clear b1 hDm hch
                  have b6c0 := b6.c0
                  have b6c1 := b6.c1
                  have b6c2 := b6.c2
                  have b6f0 := b6.f0
                  have b6f1 := b6.f1
                  have b6f2 := b6.f2
                  have b6l := b6.lt
                  go_wp2_with fail
                  go_meet
                  exact ⟨rfl, d3, by rw [HSG.out]; exact HD3.out.mono HKD.out.1, hDt, S, b1t, hcht⟩
              case rest =>
                clear b6 b1 hch e2 hcc
                obtain ⟨rfl, d3, hd3, hD, b6, b1, hch⟩ := hcut
                have HD3 := Lib.hid hd3
                have HG1 : Hid (∀ t j, gau F n (c + 1) t j = if t ≤ c then swp f c p t j else swp f c p t j - swp f c p t c / q * f p j) := Lib.hid fun t j => by
                  rw [gau_succ (by rw [HPI.out]; exact hpn), HPI.out, Hf.out]
                  unfold gst
                  rw [HQ.out]
                obtain ⟨G1, HGN⟩ := name_it (gau F n (c + 1))
                rw [HGN.out] at HG1
                clear hd3
                go_wp2_with fail
                go_loopw [10] (fun iv wx => ∃ (i : Nat) (M3 : List (List Q3)), c + 1 ≤ i ∧ i ≤ n ∧ iv = .int .i64 i ∧ M3.length = n ∧ (∀ t, t < n → Row1 (M3.getD t []) (if c < t ∧ t < i then G1 t else swp f c p t) n (if c < t ∧ t < i then 4 * K + 1 else K)) ∧ MutD wx g cp M3 h2 c2 n n ∧ Blk3 wx g6 (.bool d3.neg) (.string d3.num) (.string d3.den) ∧ Blk3 wx w.heap.size (.bool false) (.string ⟨#[]⟩) (.string ⟨#[]⟩) ∧ Chg [] w wx) (fun iv _ => n - (intOf iv).toNat)
                case atStart => exact ⟨c + 1, M2, Nat.le_refl _, by omega, by go_num, HV2.out.len, fun t ht => by
                  rw [if_neg (by omega), if_neg (by omega)]; exact HV2.out.at_ ht, hD, b6, b1, hch⟩
                case round =>
                  clear hD b6 b1 hch
                  obtain ⟨i, M3, hci1, hi, rfl, hlM3, hrows, hD, b6, b1, hch⟩ := hrel
                  have HROWS := Lib.hid hrows
                  have HLM3 := Lib.hid hlM3
                  clear hrows hlM3
                  by_cases hin : i < n
                  · have R3 : Hid (Row1 (M3.getD i []) (swp f c p i) n K) := Lib.hid (by
                      have := HROWS.out i hin
                      rwa [if_neg (by omega), if_neg (by omega)] at this)
                    have RC : Hid (Row1 (M3.getD c []) (f p) n K) := Lib.hid (by
                      have := HROWS.out c hcn
                      rw [if_neg (by omega), if_neg (by omega)] at this
                      rwa [show swp f c p c = f p from by unfold swp; rw [if_pos rfl]] at this)
                    have hci := hD.cel hin
                    have hcc := hD.cel hcn
                    have e1 := (hD.nums hin).el (j := c) (by rw [R3.out.len]; exact hcn)
                    have e2 := (hD.nums hcn).el (j := c) (by rw [RC.out.len]; exact hcn)
                    have v1 := R3.out.val c hcn
                    have v2 := RC.out.val c hcn
                    rw [HQ.out] at v2
                    obtain ⟨x3, HX3⟩ := name_it ((M3.getD i []).getD c q0)
                    rw [HX3.out] at e1 v1
                    obtain ⟨x4, HX4⟩ := name_it ((M3.getD c []).getD c q0)
                    rw [HX4.out] at e2 v2
                    obtain ⟨u0, HU0⟩ := name_it (swp f c p i c)
                    rw [HU0.out] at v1
                    have HV3 := Lib.hid v1
                    have HV4 := Lib.hid v2
                    have HQN : Hid (q ≠ 0) := Lib.hid (by rw [← HQ.out]; exact HQ0.out)
                    have i3 : (0 : Int) ≤ (i : Int) := by omega
                    have i4 : (i : Int) < (n : Int) := by omega
                    clear v1 v2
                    go_wp2_with fail
                    obtain ⟨wo, hwo⟩ : ∃ wo, wo = wr := ⟨_, rfl⟩
                    subst hwo
                    go_cut [11] (fun fv wx => ∃ (g11 : Nat) (x5 : Q3), fv = .pointer (some ⟨g11, 0, none⟩) ∧ Val x5 (u0 / q) (K + K) ∧ Blk3 wx g11 (.bool x5.neg) (.string x5.num) (.string x5.den) ∧ g6 < g11 ∧ MutD wx g cp M3 h2 c2 n n ∧ Blk3 wx g6 (.bool d3.neg) (.string d3.num) (.string d3.den) ∧ Blk3 wx w.heap.size (.bool false) (.string ⟨#[]⟩) (.string ⟨#[]⟩) ∧ Chg [] w wx)
                    case first =>
                      have c8 : Chg [] wo wo.drew := (Chg.refl _ _).drew
                      replace b6 := b6.keep c8 (by simp)
                      replace b1 := b1.keep c8 (by simp)
                      replace e1 := e1.keep0 c8
                      replace e2 := e2.keep0 c8
                      replace hci := hci.keep0 c8
                      replace hcc := hcc.keep0 c8
                      replace hD := hD.keep0 c8
                      replace hch := hch.then c8
                      clear c8
                      have hgo : g < wo.heap.size := hci.lt
                      have hg6o : g6 < wo.heap.size := b6.lt
                      have hl1 := (HLOW2.out i hin).2
                      have hl2 := (HLOW2.out c hcn).2
                      go_region_held3 (fun w' => w'.cell? ⟨g, i, none⟩ = some (.slice (some ⟨h2 i, 0, none⟩) n (c2 i)) ∧ w'.cell? ⟨g, c, none⟩ = some (.slice (some ⟨h2 c, 0, none⟩) n (c2 c)) ∧ w'.cell? ⟨h2 i, c * 3, none⟩ = some (.bool x3.neg) ∧ w'.cell? ⟨h2 i, c * 3 + 1, none⟩ = some (.string x3.num) ∧ w'.cell? ⟨h2 i, c * 3 + 2, none⟩ = some (.string x3.den) ∧ w'.cell? ⟨h2 c, c * 3, none⟩ = some (.bool x4.neg) ∧ w'.cell? ⟨h2 c, c * 3 + 1, none⟩ = some (.string x4.num) ∧ w'.cell? ⟨h2 c, c * 3 + 2, none⟩ = some (.string x4.den)) (first
                          | exact ⟨hci.c, hcc.c, e1.a, e1.b, e1.c, e2.a, e2.b, e2.c⟩
                          | exact ⟨(hci.keep0 ((Chg.refl [] _).alloc _)).c, (hcc.keep0 ((Chg.refl [] _).alloc _)).c, (e1.keep0 ((Chg.refl [] _).alloc _)).a, (e1.keep0 ((Chg.refl [] _).alloc _)).b, (e1.keep0 ((Chg.refl [] _).alloc _)).c, (e2.keep0 ((Chg.refl [] _).alloc _)).a, (e2.keep0 ((Chg.refl [] _).alloc _)).b, (e2.keep0 ((Chg.refl [] _).alloc _)).c⟩
                          | exact ⟨(hci.st (by omega) _ _ _).c, (hcc.st (by omega) _ _ _).c, (e1.st (by omega) _ _ _).a, (e1.st (by omega) _ _ _).b, (e1.st (by omega) _ _ _).c, (e2.st (by omega) _ _ _).a, (e2.st (by omega) _ _ _).b, (e2.st (by omega) _ _ _).c⟩) (first
                          | (go_at_call 32
                             (with_reducible refine (rOver_any x3 x4 u0 q K K _ HV3.out HV4.out HQN.out (by have := HKC.out; have := HKR.out; omega)).mono ?_)
                             rintro e w9 ⟨x5, rfl, hx5, c9⟩
                             have HX5 := Lib.hid hx5
                             have c9d : Chg [] wo.drew w9 := by first | exact c9 | exact ((Chg.refl [] _).alloc _).then c9
                             try (have b11 : Blk3 w9 wo.heap.size (.bool false) (.string ⟨#[]⟩) (.string ⟨#[]⟩) := (Blk3.alloc wo.drew (.bool false) (.string ⟨#[]⟩) (.string ⟨#[]⟩) 26).keep c9 (by simp))
                             have hsz9 : wo.heap.size ≤ w9.heap.size := c9d.size
                             replace b6 := b6.keep c9d (by simp)
                             replace b1 := b1.keep c9d (by simp)
                             replace e1 := e1.keep0 c9d
                             replace e2 := e2.keep0 c9d
                             replace hci := hci.keep0 c9d
                             replace hcc := hcc.keep0 c9d
                             replace hD := hD.keep0 c9d
                             replace hch := hch.then c9d
                             clear c9d
                             clear hx5 c9
                             try (have b11c0 := b11.c0; have b11c1 := b11.c1; have b11c2 := b11.c2; have b11f0 := b11.f0; have b11f1 := b11.f1; have b11f2 := b11.f2; have b11l := b11.lt))
                          | fail)
                      all_goals
                        go_wp2_with fail
                        go_meet
                        first
                          | exact ⟨_, x5, rfl, HX5.out, Blk3.alloc w9 _ _ _ _, by omega, hD.keep0 ((Chg.refl [] w9).alloc _), b6.keep ((Chg.refl [] w9).alloc _) (by simp), b1.keep ((Chg.refl [] w9).alloc _) (by simp), hch.alloc _⟩
                          | exact ⟨_, x5, rfl, HX5.out, b11.store _ _ _, by omega, hD.st3 (by omega) (fun t ht => by have := (HLOW2.out t ht).2; omega) _ _ _, b6.sto (by omega) _ _ _, b1.sto (by omega) _ _ _, hch.store3 (g := wo.heap.size) (.inr (by omega)) _ _ _⟩
                    case rest =>
                      clear hD b6 b1 hch e1 e2 hci hcc
                      obtain ⟨g11, x5, rfl, hx5, b11, hg11, hD, b6, b1, hch⟩ := hcut
                      have HX5 := Lib.hid hx5
                      obtain ⟨a, HA⟩ := name_it (u0 / q)
                      rw [HA.out] at HX5
                      have HG1I : Hid (∀ j, G1 i j = swp f c p i j - a * f p j) := Lib.hid fun j => by
                        rw [HG1.out, if_neg (by omega), HU0.out, HA.out]
                      clear hx5
                      obtain ⟨y3, HY3⟩ := name_it (M3.getD i [])
                      rw [HY3.out] at R3
                      have hN := hD.nums hin
                      rw [HY3.out] at hN
                      have hH := hD.hdr
                      have hP : Pool wc M3 h2 c2 n (fun t => t = i) := ⟨fun t ht _ => hD.nums ht⟩
                      have HIJ := Lib.hid hD.inj
                      have HOF := Lib.hid hD.off
                      have hV0 : ∀ j, j < c → Val (y3.getD j q0) (G1 i j) (4 * K + 1) := fun j hj => by
                        rw [HG1I.out, HZL.out p hcp hpn j hj, Rat.mul_zero]
                        have := R3.out.val j (by omega)
                        rw [x29sub0]
                        exact this.mono (by omega)
                      have HV0 := Lib.hid hV0
                      clear hV0 hD
                      go_wp2_with fail
                      go_loopw [12] (fun kv wx => ∃ (kk : Nat) (zs : List Q3), c ≤ kk ∧ kk ≤ n ∧ kv = .int .i64 kk ∧ zs.length = n ∧ (∀ j, j < kk → Val (zs.getD j q0) (G1 i j) (4 * K + 1)) ∧ (∀ j, kk ≤ j → zs.getD j q0 = y3.getD j q0) ∧ Nums wx (h2 i) (c2 i) zs ∧ Blk3 wx g11 (.bool x5.neg) (.string x5.num) (.string x5.den) ∧ Hdr wx g cp (hdrs h2 c2 n n) ∧ Pool wx M3 h2 c2 n (fun t => t = i) ∧ Blk3 wx g6 (.bool d3.neg) (.string d3.num) (.string d3.den) ∧ Blk3 wx w.heap.size (.bool false) (.string ⟨#[]⟩) (.string ⟨#[]⟩) ∧ Chg [] w wx) (fun kv _ => n - (intOf kv).toNat)
                      case atStart => exact ⟨c, y3, Nat.le_refl _, hc, rfl, R3.out.len, HV0.out, fun j _ => rfl, hN, b11, hH, hP, b6, b1, hch⟩
                      case round =>
                        clear hN b11 hH hP b6 b1 hch
                        obtain ⟨kk, zs, hck, hkn, rfl, hzl, hval, hrest, hN, b11, hH, hP, b6, b1, hch⟩ := hrel
                        have HZL3 := Lib.hid hzl
                        have HVAL := Lib.hid hval
                        have HREST := Lib.hid hrest
                        clear hzl hval hrest
                        by_cases hkk : kk < n ∧ a ≠ 0
                        · obtain ⟨hkk, ha⟩ := hkk
                          have hx50 := HX5.out.nz ha
                          have e1 := hN.el (j := kk) (by rw [HZL3.out]; exact hkk)
                          rw [HREST.out kk (Nat.le_refl _)] at e1
                          have v1 := R3.out.val kk hkk
                          obtain ⟨z0, HZ0⟩ := name_it (y3.getD kk q0)
                          rw [HZ0.out] at e1 v1
                          have e4 := (hP.row c hcn (by omega)).el (j := kk) (by rw [RC.out.len]; exact hkk)
                          have v4 := RC.out.val kk hkk
                          obtain ⟨z4, HZ4⟩ := name_it ((M3.getD c []).getD kk q0)
                          rw [HZ4.out] at e4 v4
                          obtain ⟨u, HU⟩ := name_it (swp f c p i kk)
                          rw [HU.out] at v1
                          obtain ⟨v, HVV⟩ := name_it (f p kk)
                          rw [HVV.out] at v4
                          have j5 : (0 : Int) ≤ (kk : Int) := by omega
                          have j6 : (kk : Int) < (n : Int) := by omega
                          have hci : Cel wr g i (.slice (some ⟨h2 i, 0, none⟩) n (c2 i)) := ⟨hH.lt, by rw [hH.cell (by rw [hdrs_length]; exact hin), hdrs_get h2 c2 n hin]⟩
                          have hcc : Cel wr g c (.slice (some ⟨h2 c, 0, none⟩) n (c2 c)) := ⟨hH.lt, by rw [hH.cell (by rw [hdrs_length]; exact hcn), hdrs_get h2 c2 n hcn]⟩
                          have d1 : decide ((kk : Int) < (n : Int)) = true := decide_eq_true (by omega)
                          have hgi : g ≠ h2 i := Ne.symm (HOF.out i hin)
                          have hbi : g11 ≠ h2 i := by have := (HLOW2.out i hin).2; omega
                          have hri : h2 c ≠ h2 i := fun e => by have := HIJ.out _ _ hcn hin e; omega
                          have hl2 := HLOW2.out i hin
                          have HH := Lib.hid hH
                          have HPO := Lib.hid hP
                          clear hH hP
                          have b11c0 := b11.c0
                          have b11c1 := b11.c1
                          have b11c2 := b11.c2
                          have b11f0 := b11.f0
                          have b11f1 := b11.f1
                          have b11f2 := b11.f2
                          have b11l := b11.lt
                          have e1a := e1.a
                          have e1b := e1.b
                          have e1c := e1.c
                          have e4a := e4.a
                          have e4b := e4.b
                          have e4c := e4.c
                          have hcic := hci.c
                          have hccc := hcc.c
                          go_wp2_with fail
                          clear b11c0 b11c1 b11c2 b11f0 b11f1 b11f2 b11l e1a e1b e1c e4a e4b e4c hcic hccc
                          have c8 : Chg [] wr wr.drew := (Chg.refl _ _).drew
                          have hH := HH.out.keep c8 (by simp)
                          have hP := HPO.out.keep0 c8
                          replace b11 := b11.keep c8 (by simp)
                          replace b6 := b6.keep c8 (by simp)
                          replace b1 := b1.keep c8 (by simp)
                          replace hN := hN.keep c8 (by simp)
                          replace e1 := e1.keep0 c8
                          replace e4 := e4.keep0 c8
                          replace hci := hci.keep0 c8
                          replace hcc := hcc.keep0 c8
                          replace hch := hch.then c8
                          clear c8
                          have s3 := hN.frozen (kk * 3)
                          have s4 := hN.frozen (kk * 3 + 1)
                          have s5 := hN.frozen (kk * 3 + 2)
                          have e1a := e1.a
                          have e1b := e1.b
                          have e1c := e1.c
                          refine wp_region_held_drew (S := (fun w' => w'.cell? ⟨g, i, none⟩ = some (.slice (some ⟨h2 i, 0, none⟩) n (c2 i)) ∧ w'.cell? ⟨g, c, none⟩ = some (.slice (some ⟨h2 c, 0, none⟩) n (c2 c)) ∧ w'.cell? ⟨h2 c, kk * 3, none⟩ = some (.bool z4.neg) ∧ w'.cell? ⟨h2 c, kk * 3 + 1, none⟩ = some (.string z4.num) ∧ w'.cell? ⟨h2 c, kk * 3 + 2, none⟩ = some (.string z4.den) ∧ w'.cell? ⟨g11, 0, none⟩ = some (.bool x5.neg) ∧ w'.cell? ⟨g11, 1, none⟩ = some (.string x5.num) ∧ w'.cell? ⟨g11, 2, none⟩ = some (.string x5.den))) (by kernel_rfl) ?_ (fun hHeld => ?_)
                          · exact ⟨hci.c, hcc.c, e4.a, e4.b, e4.c, b11.c0, b11.c1, b11.c2⟩
                          refine wpAnyH_take (i := 0) (v := ?_) rfl (by kernel_rfl) (by kernel_rfl) (by kernel_rfl) (fun _ _ _ h => h) (Or.inl ⟨by rfl, ?_⟩) (by assumption) ?_
                          rotate_left 1
                          · intro w hSw
                            try dsimp only at hSw
                            go_simp
                            try with_reducible rfl
                          try simp only [Act.put, List.setIfInBounds_toArray, List.set_cons_zero, List.set_cons_succ]
                          refine wpAnyH_take (i := 1) (v := ?_) rfl (by kernel_rfl) (by kernel_rfl) (by kernel_rfl) (fun _ _ _ h => h) (Or.inl ⟨by rfl, ?_⟩) (by assumption) ?_
                          rotate_left 1
                          · intro w hSw
                            try dsimp only at hSw
                            go_simp
                            try with_reducible rfl
                          try simp only [Act.put, List.setIfInBounds_toArray, List.set_cons_zero, List.set_cons_succ]
                          refine wpAnyH_take (i := 2) (v := ?_) rfl (by kernel_rfl) (by kernel_rfl) (by kernel_rfl) (fun _ _ _ h => h) (Or.inl ⟨by rfl, ?_⟩) (by assumption) ?_
                          rotate_left 1
                          · intro w hSw
                            try dsimp only at hSw
                            go_simp
                            try with_reducible rfl
                          try simp only [Act.put, List.setIfInBounds_toArray, List.set_cons_zero, List.set_cons_succ]
                          refine wpAnyH_take (i := 3) (v := ?_) rfl (by kernel_rfl) (by kernel_rfl) (by kernel_rfl) (fun _ _ _ h => h) (Or.inl ⟨by rfl, ?_⟩) (by assumption) ?_
                          rotate_left 1
                          · intro w hSw
                            try dsimp only at hSw
                            go_simp
                            try with_reducible rfl
                          try simp only [Act.put, List.setIfInBounds_toArray, List.set_cons_zero, List.set_cons_succ]
                          refine wpAnyH_take (i := 4) (v := ?_) rfl (by kernel_rfl) (by kernel_rfl) (by kernel_rfl) (fun _ _ _ h => h) (Or.inl ⟨by rfl, ?_⟩) (by assumption) ?_
                          rotate_left 1
                          · intro w hSw
                            try dsimp only at hSw
                            go_simp
                            try with_reducible rfl
                          try simp only [Act.put, List.setIfInBounds_toArray, List.set_cons_zero, List.set_cons_succ]
                          refine wpAnyH_take (i := 5) (v := ?_) rfl (by kernel_rfl) (by kernel_rfl) (by kernel_rfl) (fun _ _ _ h => h) (Or.inl ⟨by rfl, ?_⟩) (by assumption) ?_
                          rotate_left 1
                          · intro w hSw
                            try dsimp only at hSw
                            go_simp
                            try with_reducible rfl
                          try simp only [Act.put, List.setIfInBounds_toArray, List.set_cons_zero, List.set_cons_succ]
                          refine wpAnyH_take (i := 6) (v := ?_) rfl (by kernel_rfl) (by kernel_rfl) (by kernel_rfl) (fun _ _ _ h => h) (Or.inl ⟨by rfl, ?_⟩) (by assumption) ?_
                          rotate_left 1
                          · intro w hSw
                            try dsimp only at hSw
                            go_simp
                            try with_reducible rfl
                          try simp only [Act.put, List.setIfInBounds_toArray, List.set_cons_zero, List.set_cons_succ]
                          refine wpAnyH_take (i := 7) (v := ?_) rfl (by kernel_rfl) (by kernel_rfl) (by kernel_rfl) (fun _ _ _ h => h) (Or.inl ⟨by rfl, ?_⟩) (by assumption) ?_
                          rotate_left 1
                          · intro w hSw
                            try dsimp only at hSw
                            go_simp
                            try with_reducible rfl
                          try simp only [Act.put, List.setIfInBounds_toArray, List.set_cons_zero, List.set_cons_succ]
                          refine wpAnyH_take (i := 8) (v := ?_) rfl (by kernel_rfl) (by kernel_rfl) (by kernel_rfl) (fun _ _ _ h => h) (Or.inl ⟨by rfl, ?_⟩) (by assumption) ?_
                          rotate_left 1
                          · intro w hSw
                            try dsimp only at hSw
                            go_simp
                            try with_reducible rfl
                          try simp only [Act.put, List.setIfInBounds_toArray, List.set_cons_zero, List.set_cons_succ]
                          refine wpAnyH_take (i := 9) (v := ?_) rfl (by kernel_rfl) (by kernel_rfl) (by kernel_rfl) (fun _ _ _ h => h) (Or.inl ⟨by rfl, ?_⟩) (by assumption) ?_
                          rotate_left 1
                          · intro w hSw
                            try dsimp only at hSw
                            go_simp
                            try with_reducible rfl
                          try simp only [Act.put, List.setIfInBounds_toArray, List.set_cons_zero, List.set_cons_succ]
                          refine wpAnyH_take (i := 10) (v := ?_) rfl (by kernel_rfl) (by kernel_rfl) (by kernel_rfl) (fun _ _ _ h => h) (Or.inl ⟨by rfl, ?_⟩) (by assumption) ?_
                          rotate_left 1
                          · intro w hSw
                            try dsimp only at hSw
                            go_simp
                            try with_reducible rfl
                          try simp only [Act.put, List.setIfInBounds_toArray, List.set_cons_zero, List.set_cons_succ]
                          refine wpAnyH_take (i := 12) (v := ?_) rfl (by kernel_rfl) (by kernel_rfl) (by kernel_rfl) (fun _ _ _ h => h) (Or.inl ⟨by rfl, ?_⟩) (by assumption) ?_
                          rotate_left 1
                          · intro w hSw
                            try dsimp only at hSw
                            go_simp
                            try with_reducible rfl
                          try simp only [Act.put, List.setIfInBounds_toArray, List.set_cons_zero, List.set_cons_succ]
                          refine wpAnyH_take (i := 13) (v := ?_) rfl (by kernel_rfl) (by kernel_rfl) (by kernel_rfl) (fun _ _ _ h => h) (Or.inl ⟨by rfl, ?_⟩) (by assumption) ?_
                          rotate_left 1
                          · intro w hSw
                            try dsimp only at hSw
                            go_simp
                            try with_reducible rfl
                          try simp only [Act.put, List.setIfInBounds_toArray, List.set_cons_zero, List.set_cons_succ]
                          refine wpAnyH_take (i := 14) (v := ?_) rfl (by kernel_rfl) (by kernel_rfl) (by kernel_rfl) (fun _ _ _ h => h) (Or.inl ⟨by rfl, ?_⟩) (by assumption) ?_
                          rotate_left 1
                          · intro w hSw
                            try dsimp only at hSw
                            go_simp
                            try with_reducible rfl
                          try simp only [Act.put, List.setIfInBounds_toArray, List.set_cons_zero, List.set_cons_succ]
                          refine wpAnyH_take (i := 15) (v := ?_) rfl (by kernel_rfl) (by kernel_rfl) (by kernel_rfl) (fun _ _ _ h => h) (Or.inl ⟨by rfl, ?_⟩) (by assumption) ?_
                          rotate_left 1
                          · intro w hSw
                            try dsimp only at hSw
                            go_simp
                            try with_reducible rfl
                          try simp only [Act.put, List.setIfInBounds_toArray, List.set_cons_zero, List.set_cons_succ]
                          refine wpAnyH_take (i := 16) (v := ?_) rfl (by kernel_rfl) (by kernel_rfl) (by kernel_rfl) (fun _ _ _ h => h) (Or.inl ⟨by rfl, ?_⟩) (by assumption) ?_
                          rotate_left 1
                          · intro w hSw
                            try dsimp only at hSw
                            go_simp
                            try with_reducible rfl
                          try simp only [Act.put, List.setIfInBounds_toArray, List.set_cons_zero, List.set_cons_succ]
                          refine wpAnyH_take (i := 17) (v := ?_) rfl (by kernel_rfl) (by kernel_rfl) (by kernel_rfl) (fun _ _ _ h => h) (Or.inl ⟨by rfl, ?_⟩) (by assumption) ?_
                          rotate_left 1
                          · intro w hSw
                            try dsimp only at hSw
                            go_simp
                            try with_reducible rfl
                          try simp only [Act.put, List.setIfInBounds_toArray, List.set_cons_zero, List.set_cons_succ]
                          refine wpAnyH_take (i := 18) (v := ?_) rfl (by kernel_rfl) (by kernel_rfl) (by kernel_rfl) (fun _ _ _ h => h) (Or.inl ⟨by rfl, ?_⟩) (by assumption) ?_
                          rotate_left 1
                          · intro w hSw
                            try dsimp only at hSw
                            go_simp
                            try with_reducible rfl
                          try simp only [Act.put, List.setIfInBounds_toArray, List.set_cons_zero, List.set_cons_succ]
                          refine wpAnyH_take (i := 19) (v := ?_) rfl (by kernel_rfl) (by kernel_rfl) (by kernel_rfl) (fun _ _ _ h => h) (Or.inl ⟨by rfl, ?_⟩) (by assumption) ?_
                          rotate_left 1
                          · intro w hSw
                            try dsimp only at hSw
                            go_simp
                            try with_reducible rfl
                          try simp only [Act.put, List.setIfInBounds_toArray, List.set_cons_zero, List.set_cons_succ]
                          refine wpAnyH_ready (rs := [11, 20]) (by kernel_rfl) (by simp) ?_
                          refine AllReadyH.cons (o := _) rfl (fun K' hK => ?_) ?_
                          · go_simp
                            refine hK.out _ _ ?_ (fun hHeld => ?_)
                            · exact ⟨hci.c, hcc.c, e4.a, e4.b, e4.c, b11.c0, b11.c1, b11.c2⟩
                            clear hK K'
                            try simp only [Act.put, List.setIfInBounds_toArray, List.set_cons_zero, List.set_cons_succ]
                            refine wpAnyH_ready (rs := [20]) (by kernel_rfl) (by simp) ?_
                            refine AllReadyH.cons (o := _) rfl (fun K' hK => ?_) AllReadyH.nil
                            go_simp
                            refine (rTimes_any x5 z4 a v (K + K) K _ HX5.out v4 (by have := HKC.out; have := HKR.out; omega)).mono ?_
                            rintro e wa ⟨t1, rfl, ht1, c1⟩
                            clear e1a e1b e1c
                            replace hH := hH.keep c1 (by simp)
                            replace b11 := b11.keep c1 (by simp)
                            replace b6 := b6.keep c1 (by simp)
                            replace b1 := b1.keep c1 (by simp)
                            replace hN := hN.keep c1 (by simp)
                            replace e1 := e1.keep0 c1
                            replace e4 := e4.keep0 c1
                            replace hci := hci.keep0 c1
                            replace hcc := hcc.keep0 c1
                            replace hP := hP.keep0 c1
                            replace hch := hch.then c1
                            clear c1
                            have s3 := hN.frozen (kk * 3)
                            have s4 := hN.frozen (kk * 3 + 1)
                            have s5 := hN.frozen (kk * 3 + 2)
                            have e1a := e1.a
                            have e1b := e1.b
                            have e1c := e1.c
                            go_wp2_with fail
                            refine hK.out _ _ ?_ (fun hHeld => ?_)
                            · exact ⟨hci.c, hcc.c, e4.a, e4.b, e4.c, b11.c0, b11.c1, b11.c2⟩
                            clear hK K'
                            try simp only [Act.put, List.setIfInBounds_toArray, List.set_cons_zero, List.set_cons_succ]
                            refine wpAnyH_ready (rs := [21]) (by kernel_rfl) (by simp) ?_
                            refine AllReadyH.cons (o := _) rfl (fun K' hK => ?_) AllReadyH.nil
                            go_simp
                            refine (rMinus_any z0 t1 u (a * v) K (K + K + K) _ v1 ht1 (by have := HKC.out; have := HKR.out; omega)).mono ?_
                            rintro e wb ⟨z2, rfl, hz2, c1⟩
                            clear e1a e1b e1c
                            replace hH := hH.keep c1 (by simp)
                            replace b11 := b11.keep c1 (by simp)
                            replace b6 := b6.keep c1 (by simp)
                            replace b1 := b1.keep c1 (by simp)
                            replace hN := hN.keep c1 (by simp)
                            replace e1 := e1.keep0 c1
                            replace e4 := e4.keep0 c1
                            replace hci := hci.keep0 c1
                            replace hcc := hcc.keep0 c1
                            replace hP := hP.keep0 c1
                            replace hch := hch.then c1
                            clear c1
                            have s3 := hN.frozen (kk * 3)
                            have s4 := hN.frozen (kk * 3 + 1)
                            have s5 := hN.frozen (kk * 3 + 2)
                            have e1a := e1.a
                            have e1b := e1.b
                            have e1c := e1.c
                            go_wp2_with fail
                            refine hK.out _ _ ?_ (fun hHeld => ?_)
                            · exact ⟨hci.c, hcc.c, e4.a, e4.b, e4.c, b11.c0, b11.c1, b11.c2⟩
                            clear hK K'
                            try simp only [Act.put, List.setIfInBounds_toArray, List.set_cons_zero, List.set_cons_succ]
                            refine wpAnyH_take (i := 22) (v := ?_) rfl (by kernel_rfl) (by kernel_rfl) (by kernel_rfl) (fun _ _ _ h => h) (Or.inl ⟨by rfl, ?_⟩) (by assumption) ?_
                            rotate_left 1
                            · intro w hSw
                              try dsimp only at hSw
                              go_simp
                              try with_reducible rfl
                            try simp only [Act.put, List.setIfInBounds_toArray, List.set_cons_zero, List.set_cons_succ]
                            refine wpAnyH_ready (rs := [23]) (by kernel_rfl) (by simp) ?_
                            refine AllReadyH.cons (o := _) rfl (fun K' hK => ?_) AllReadyH.nil
                            go_simp
                            refine hK.out _ _ ?_ (fun hHeld => ?_)
                            · exact ⟨(hci.st hgi _ _ _).c, (hcc.st hgi _ _ _).c, (e4.st hri _ _ _).a, (e4.st hri _ _ _).b, (e4.st hri _ _ _).c, (b11.sto hbi _ _ _).c0, (b11.sto hbi _ _ _).c1, (b11.sto hbi _ _ _).c2⟩
                            clear hK K'
                            try simp only [Act.put, List.setIfInBounds_toArray, List.set_cons_zero, List.set_cons_succ]
                            refine wpAnyH_done (by kernel_rfl) ?_ _
                            have HNX := Lib.hid (nums_set (P := fun j z => Val z (G1 i j) (4 * K + 1)) (z := z2) (by rw [HZL3.out]; exact hkk) HVAL.out (by rw [HG1I.out kk, HU.out, HVV.out]; exact hz2.mono (by omega)))
                            have hgp := (HLOW2.out i hin).1
                            go_wp2_with fail
                            go_roundw
                            case rel => exact ⟨kk + 1, zs.set kk z2, by omega, by omega, by go_num, by rw [List.length_set]; exact HZL3.out, HNX.out, fun j hj => by rw [getD_setM zs q0 z2 (by rw [HZL3.out]; omega), if_neg (by omega)]; exact HREST.out j (by omega), hN.store (by rw [HZL3.out]; omega) z2, b11.sto hbi _ _ _, hH.keep ((Chg.refl [h2 i] _).store3o (.inl (by simp)) _ _ _) (by simpa using hgi), hP.keep ((Chg.refl [h2 i] _).store3o (.inl (by simp)) _ _ _) (fun t ht hx => by simp; exact fun e => hx (HIJ.out _ _ ht hin e)), b6.sto (by omega) _ _ _, b1.sto (by omega) _ _ _, hch.store3o (.inr (Nat.le_of_lt hgp)) _ _ _⟩
                            case measure => simp [intOf]; omega
                          · refine AllReadyH.cons (o := _) rfl (fun K' hK => ?_) AllReadyH.nil
                            go_simp
                            refine (rTimes_any x5 z4 a v (K + K) K _ HX5.out v4 (by have := HKC.out; have := HKR.out; omega)).mono ?_
                            rintro e wa ⟨t1, rfl, ht1, c1⟩
                            clear e1a e1b e1c
                            replace hH := hH.keep c1 (by simp)
                            replace b11 := b11.keep c1 (by simp)
                            replace b6 := b6.keep c1 (by simp)
                            replace b1 := b1.keep c1 (by simp)
                            replace hN := hN.keep c1 (by simp)
                            replace e1 := e1.keep0 c1
                            replace e4 := e4.keep0 c1
                            replace hci := hci.keep0 c1
                            replace hcc := hcc.keep0 c1
                            replace hP := hP.keep0 c1
                            replace hch := hch.then c1
                            clear c1
                            have s3 := hN.frozen (kk * 3)
                            have s4 := hN.frozen (kk * 3 + 1)
                            have s5 := hN.frozen (kk * 3 + 2)
                            have e1a := e1.a
                            have e1b := e1.b
                            have e1c := e1.c
                            go_wp2_with fail
                            refine hK.out _ _ ?_ (fun hHeld => ?_)
                            · exact ⟨hci.c, hcc.c, e4.a, e4.b, e4.c, b11.c0, b11.c1, b11.c2⟩
                            clear hK K'
                            try simp only [Act.put, List.setIfInBounds_toArray, List.set_cons_zero, List.set_cons_succ]
                            refine wpAnyH_ready (rs := [11]) (by kernel_rfl) (by simp) ?_
                            refine AllReadyH.cons (o := _) rfl (fun K' hK => ?_) AllReadyH.nil
                            go_simp
                            refine hK.out _ _ ?_ (fun hHeld => ?_)
                            · exact ⟨hci.c, hcc.c, e4.a, e4.b, e4.c, b11.c0, b11.c1, b11.c2⟩
                            clear hK K'
                            try simp only [Act.put, List.setIfInBounds_toArray, List.set_cons_zero, List.set_cons_succ]
                            refine wpAnyH_ready (rs := [21]) (by kernel_rfl) (by simp) ?_
                            refine AllReadyH.cons (o := _) rfl (fun K' hK => ?_) AllReadyH.nil
                            go_simp
                            refine (rMinus_any z0 t1 u (a * v) K (K + K + K) _ v1 ht1 (by have := HKC.out; have := HKR.out; omega)).mono ?_
                            rintro e wb ⟨z2, rfl, hz2, c1⟩
                            clear e1a e1b e1c
                            replace hH := hH.keep c1 (by simp)
                            replace b11 := b11.keep c1 (by simp)
                            replace b6 := b6.keep c1 (by simp)
                            replace b1 := b1.keep c1 (by simp)
                            replace hN := hN.keep c1 (by simp)
                            replace e1 := e1.keep0 c1
                            replace e4 := e4.keep0 c1
                            replace hci := hci.keep0 c1
                            replace hcc := hcc.keep0 c1
                            replace hP := hP.keep0 c1
                            replace hch := hch.then c1
                            clear c1
                            have s3 := hN.frozen (kk * 3)
                            have s4 := hN.frozen (kk * 3 + 1)
                            have s5 := hN.frozen (kk * 3 + 2)
                            have e1a := e1.a
                            have e1b := e1.b
                            have e1c := e1.c
                            go_wp2_with fail
                            refine hK.out _ _ ?_ (fun hHeld => ?_)
                            · exact ⟨hci.c, hcc.c, e4.a, e4.b, e4.c, b11.c0, b11.c1, b11.c2⟩
                            clear hK K'
                            try simp only [Act.put, List.setIfInBounds_toArray, List.set_cons_zero, List.set_cons_succ]
                            refine wpAnyH_take (i := 22) (v := ?_) rfl (by kernel_rfl) (by kernel_rfl) (by kernel_rfl) (fun _ _ _ h => h) (Or.inl ⟨by rfl, ?_⟩) (by assumption) ?_
                            rotate_left 1
                            · intro w hSw
                              try dsimp only at hSw
                              go_simp
                              try with_reducible rfl
                            try simp only [Act.put, List.setIfInBounds_toArray, List.set_cons_zero, List.set_cons_succ]
                            refine wpAnyH_ready (rs := [23]) (by kernel_rfl) (by simp) ?_
                            refine AllReadyH.cons (o := _) rfl (fun K' hK => ?_) AllReadyH.nil
                            go_simp
                            refine hK.out _ _ ?_ (fun hHeld => ?_)
                            · exact ⟨(hci.st hgi _ _ _).c, (hcc.st hgi _ _ _).c, (e4.st hri _ _ _).a, (e4.st hri _ _ _).b, (e4.st hri _ _ _).c, (b11.sto hbi _ _ _).c0, (b11.sto hbi _ _ _).c1, (b11.sto hbi _ _ _).c2⟩
                            clear hK K'
                            try simp only [Act.put, List.setIfInBounds_toArray, List.set_cons_zero, List.set_cons_succ]
                            refine wpAnyH_done (by kernel_rfl) ?_ _
                            have HNX := Lib.hid (nums_set (P := fun j z => Val z (G1 i j) (4 * K + 1)) (z := z2) (by rw [HZL3.out]; exact hkk) HVAL.out (by rw [HG1I.out kk, HU.out, HVV.out]; exact hz2.mono (by omega)))
                            have hgp := (HLOW2.out i hin).1
                            go_wp2_with fail
                            go_roundw
                            case rel => exact ⟨kk + 1, zs.set kk z2, by omega, by omega, by go_num, by rw [List.length_set]; exact HZL3.out, HNX.out, fun j hj => by rw [getD_setM zs q0 z2 (by rw [HZL3.out]; omega), if_neg (by omega)]; exact HREST.out j (by omega), hN.store (by rw [HZL3.out]; omega) z2, b11.sto hbi _ _ _, hH.keep ((Chg.refl [h2 i] _).store3o (.inl (by simp)) _ _ _) (by simpa using hgi), hP.keep ((Chg.refl [h2 i] _).store3o (.inl (by simp)) _ _ _) (fun t ht hx => by simp; exact fun e => hx (HIJ.out _ _ ht hin e)), b6.sto (by omega) _ _ _, b1.sto (by omega) _ _ _, hch.store3o (.inr (Nat.le_of_lt hgp)) _ _ _⟩
                            case measure => simp [intOf]; omega
                        · have hall : ∀ j, j < n → Val (zs.getD j q0) (G1 i j) (4 * K + 1) := fun j hj => by
                            by_cases h1 : j < kk
                            · exact HVAL.out j h1
                            · have ha : a = 0 := Classical.byContradiction fun h => hkk ⟨by omega, h⟩
                              rw [HREST.out j (by omega), HG1I.out, ha, Rat.zero_mul, x29sub0]
                              exact (R3.out.val j hj).mono (by omega)
                          have hzr : Row1 zs (G1 i) n (4 * K + 1) := ⟨HZL3.out, hall⟩
                          have hrows2 : ∀ t, t < n → Row1 ((M3.set i zs).getD t []) (if c < t ∧ t < i + 1 then G1 t else swp f c p t) n (if c < t ∧ t < i + 1 then 4 * K + 1 else K) := fun t ht => by
                            rw [getD_setM M3 [] zs (by rw [HLM3.out]; exact hin)]
                            by_cases e : t = i
                            · rw [if_pos e, if_pos (by omega), if_pos (by omega), e]; exact hzr
                            · rw [if_neg e]
                              have := HROWS.out t ht
                              by_cases h1 : c < t ∧ t < i
                              · rw [if_pos h1, if_pos h1] at this
                                rw [if_pos (by omega), if_pos (by omega)]; exact this
                              · rw [if_neg h1, if_neg h1] at this
                                rw [if_neg (by omega), if_neg (by omega)]; exact this
                          have hDB : MutD wr g cp (M3.set i zs) h2 c2 n n := ⟨hH, ⟨fun t ht _ => by
                            rw [getD_setM M3 [] zs (by rw [HLM3.out]; exact hin)]
                            by_cases e : t = i
                            · rw [if_pos e, e]; exact hN
                            · rw [if_neg e]; exact hP.row t ht e⟩, HIJ.out, HOF.out⟩
                          have HR2 := Lib.hid hrows2
                          have HDB := Lib.hid hDB
                          have HL2 : Hid ((M3.set i zs).length = n) := Lib.hid (by rw [List.length_set]; exact HLM3.out)
                          have hex : (kk < n ∧ x5.num.toList.isEmpty = true) ∨ (¬ kk < n ∧ decide (kk < n) = false) := by
                            by_cases e : kk < n
                            · exact .inl ⟨e, HX5.out.zz (Classical.byContradiction fun h => hkk ⟨e, h⟩)⟩
                            · exact .inr ⟨e, decide_eq_false e⟩
                          clear hall hzr hrows2 hDB hH hP hN hkk
                          rcases hex with ⟨d1, d2⟩ | ⟨d1, d2⟩
                          all_goals
                            have b11c0 := b11.c0
                            have b11c1 := b11.c1
                            have b11c2 := b11.c2
                            have b11f0 := b11.f0
                            have b11f1 := b11.f1
                            have b11f2 := b11.f2
                            have b11l := b11.lt
                            go_wp2_with fail
                            go_roundw
                            case rel => exact ⟨i + 1, _, by omega, by omega, by go_num, HL2.out, HR2.out, HDB.out, b6, b1, hch⟩
                            case measure => simp [intOf]; omega
                  · obtain rfl : n = i := by omega
                    have hVn : Vals M3 (gau F n (c + 1)) n n (KR k (c + 1)) := by
                      have hr : ∀ t, t < n → Row1 (M3.getD t []) (G1 t) n (4 * K + 1) := fun t ht => by
                        have := HROWS.out t ht
                        by_cases h1 : c < t
                        · rwa [if_pos ⟨h1, ht⟩, if_pos ⟨h1, ht⟩] at this
                        · rw [if_neg (by omega), if_neg (by omega)] at this
                          rw [show G1 t = swp f c p t from funext fun j => by rw [HG1.out, if_pos (by omega)]]
                          exact this.mono (by omega)
                      rw [HGN.out, HKS.out]
                      exact ⟨HLM3.out, fun t ht => (hr t ht).len, fun t ht => (hr t ht).val⟩
                    have HSN : Hid (DS w wr g cp g6 F n k (c + 1) M3 h2 c2 d3) := Lib.hid ⟨HFL2.out, hVn, hD, HLOW2.out, HD3.out, b6, b1, hch⟩
                    clear hVn hD b6 b1 hch
                    go_wp2_with fail
                    go_roundw
                    case rel => exact ⟨c + 1, M3, h2, c2, d3, by omega, by go_num, HSN.out⟩
                    case measure => simp [intOf]; omega
        · obtain rfl : p = n := by omega
          have hR := HNO.out (fun hf => by
            have h1 := hf c hcn
            rw [HGP.out, pivR_none hc (fun i h2 h3 => HZ.out i h2 h3)] at h1
            exact absurd h1 (Nat.lt_irrefl _))
          subst hR
          have hpe : ((p : Int) == (p : Int)) = true := by simp
          have HV0 : Hid (Val q0 0 ((p + 1) * KR k p)) := Lib.hid (Val_zero.mono (Nat.le_trans HKP.out (by rw [Nat.add_mul, Nat.one_mul]; omega)))
          have b1c0 := b1.c0
          have b1c1 := b1.c1
          have b1c2 := b1.c2
          have b1f0 := b1.f0
          have b1f1 := b1.f1
          have b1f2 := b1.f2
          have b1l := b1.lt
          go_wp2_with fail
          have S := b1.store (.bool false) (.string ⟨#[]⟩) (.string ⟨#[]⟩)
          exact bodyPost_ret (v := .tuple #[.agg #[.bool false, .string ⟨#[]⟩, .string ⟨#[]⟩], .int .i64 0]) (by simp [results, Try.results9, go_sem, S.c0, S.c1, S.c2]) rfl ⟨q0, rfl, HV0.out, hch.store3 (.inr (Nat.le_refl _)) _ _ _⟩
    · obtain rfl : c = n := by omega
      have hR := Lib.hid (HYES.out HFL.out)
      have d1 : decide ((c : Int) < (c : Int)) = false := decide_eq_false (by omega)
      have hne : w.heap.size ≠ g6 := by omega
      have hV := HDV.out
      rw [← hR.out] at hV
      have HVV := Lib.hid hV
      clear hV
      have b6c0 := b6.c0
      have b6c1 := b6.c1
      have b6c2 := b6.c2
      have b6f0 := b6.f0
      have b6f1 := b6.f1
      have b6f2 := b6.f2
      have b6l := b6.lt
      have b1c0 := b1.c0
      have b1c1 := b1.c1
      have b1c2 := b1.c2
      have b1f0 := b1.f0
      have b1f1 := b1.f1
      have b1f2 := b1.f2
      have b1l := b1.lt
      go_wp2_with fail
      have S := b1.store (.bool d.neg) (.string d.num) (.string d.den)
      exact bodyPost_ret (v := .tuple #[.agg #[.bool d.neg, .string d.num, .string d.den], .int .i64 0]) (by simp [results, Try.results9, go_sem, S.c0, S.c1, S.c2]) rfl ⟨d, rfl, HVV.out, hch.store3 (.inr (Nat.le_refl _)) _ _ _⟩
end Go.Proofs.Ytpaochhaenehmaa
