/-
  integralDeterminant.
-/
import Derived.Test.YtpaochhaenehmaaLB2
import Derived.Test.YtpaochhaenehmaaLM6
namespace Go.Proofs.Ytpaochhaenehmaa
open Go.RowKit Nd

theorem ratI_int (E : Nat → Nat → Int) (i j : Nat) : IsInt (ratI E i j) := ⟨E i j, rfl⟩
theorem gS_succ {G : Nat → Nat → Rat} {n c : Nat} : gS G n (c + 1) = if gp G n c = c then gS G n c else !gS G n c := rfl
/-- What the elimination leaves between its steps. -/
structure BarS (w w' : World) (g cap g2 g4 : Nat) (G : Nat → Nat → Rat) (n k c : Nat) (M1 : List (List Q3)) (E1 : Nat → Nat → Int) (zl : Q3) (D : Int) : Prop where
  full : Full G n c
  mut_ : Mut w' [g4] g cap M1
  vals : Vals M1 (ratI E1) n n (KK k c)
  bar : Bar G (ratI E1) n c
  last : Val zl (D : Rat) (KK k c)
  eq : (D : Rat) = gP G n c
  box : Blk3 w' g4 (.bool zl.neg) (.string zl.num) (.string zl.den)
  res : Blk3 w' g2 (.bool false) (.string ⟨#[]⟩) (.string ⟨#[]⟩)
  chg : Chg [g] w w'
/-- .. and in step c, before row l. -/
structure BarT (w w' : World) (g cap g2 g4 : Nat) (G : Nat → Nat → Rat) (n k c l : Nat) (M1 : List (List Q3)) (E1 : Nat → Nat → Int) (zl : Q3) : Prop where
  mut_ : Mut w' [g4] g cap M1
  vals : Vals M1 (ratI E1) n n (KK k (c + 1))
  low : ∀ i, i < n → (l ≤ i ∨ i = c) → Row1 (M1.getD i []) (ratI E1 i) n (KK k c)
  mid : BarM G (ratI E1) n c l
  box : Blk3 w' g4 (.bool zl.neg) (.string zl.num) (.string zl.den)
  res : Blk3 w' g2 (.bool false) (.string ⟨#[]⟩) (.string ⟨#[]⟩)
  chg : Chg [g] w w'

theorem BarM.set2 {G F F' : Nat → Nat → Rat} {n c l : Nat} (h : BarM G F n c l) (hcl : c < l) (_ : l < n) (h1 : ∀ j, j < n → F' l j = gP G n (c + 1) * gau G n (c + 1) l j) (h2 : ∀ i, i ≠ l → ∀ j, F' i j = F i j) : BarM G F' n c (l + 1) := by
  refine ⟨fun j hj => ?_, fun i g1 g2 g3 j hj => ?_, fun i g1 g2 g3 j hj => ?_⟩
  · rw [h2 c (by omega)]; exact h.top j hj
  · by_cases e : i = l
    · rw [e]; exact h1 j hj
    · rw [h2 i e]; exact h.done i g1 (by omega) g3 j hj
  · rw [h2 i (by omega)]; exact h.rest i (by omega) g2 g3 j hj

set_option maxRecDepth 20000 in
set_option maxHeartbeats 16000000 in
theorem intDet_any (M : List (List Q3)) (E : Nat → Nat → Int) (G : Nat → Nat → Rat) (n k g cap : Nat) (w : World) (hG : G = ratI E) (hv : Vals M (ratI E) n n k) (hk : 1 ≤ k) (hn0 : 0 < n) (hn : n ≤ 5) (hb : KK k n ≤ 4294967296) (hM : Mut w [] g cap M) :
    Calls Try.prog 26 #[.slice (some ⟨g, 0, none⟩) n cap] w fun e w' => ∃ z, e = .returned (.agg #[.bool z.neg, .string z.num, .string z.den]) ∧ Val z (detF G n) (KK k n) ∧ Chg [g] w w' := by
  have hgw := hM.lt
  have HB := Lib.hid hb
  have HG := Lib.hid hG
  have HV := Lib.hid hv
  have HINT : Hid (∀ i, i < n → ∀ j, j < n → IsInt (G i j)) := Lib.hid fun i _ j _ => by rw [HG.out]; exact ratI_int E i j
  have HNO : Hid (¬ Full G n n → detF G n = 0) := Lib.hid fun h => if_neg h
  have HYES : Hid (Full G n n → detF G n = if gS G n n then -(gP G n n) else gP G n n) := Lib.hid fun h => by unfold detF; rw [if_pos h]; rfl
  obtain ⟨R, HR⟩ := name_it (detF G n)
  rw [HR.out] at HNO HYES
  rw [HR.out]
  clear hb hG hv
  have b1 := Blk3.alloc w (.bool false) (.string ⟨#[]⟩) (.string ⟨#[]⟩) 26
  have hch : Chg [g] w (w.alloc (.cells #[.bool false, .string ⟨#[]⟩, .string ⟨#[]⟩] 26)) := (Chg.refl [g] w).alloc _
  have hM1 := hM.keep0 ((Chg.refl [] w).alloc (.cells #[.bool false, .string ⟨#[]⟩, .string ⟨#[]⟩] 26))
  obtain ⟨g2, HG2⟩ := name_it w.heap.size
  rw [HG2.out] at b1
  have hg2 := HG2.out
  clear hM
  go_enter Try.func26, Try.ntmps26
  go_wp2_with fail
  refine (IntV 1 _ (by omega) (by omega)).mono ?_
  rintro e w1 ⟨z1, rfl, hz1, c1⟩
  have HZ1 : Hid (Val z1 ((1 : Int) : Rat) (KK k 0)) := Lib.hid ⟨hz1.enc, by
    have h9 : Bd 1 ((1 : Int) : Rat) := bd_small (by omega) (by omega)
    exact h9.mono (by rw [KK_zero]; exact hk)⟩
  replace b1 := b1.keep c1 (by simp)
  replace hM1 := hM1.keep0 c1
  replace hch := hch.then c1
  have hl1 := b1.lt
  have c2 : Chg [] w1 (w1.alloc (.cells #[.bool z1.neg, .string z1.num, .string z1.den] 26)) := (Chg.refl _ _).alloc _
  have b4 := Blk3.alloc w1 (.bool z1.neg) (.string z1.num) (.string z1.den) 26
  replace b1 := b1.keep c2 (by simp)
  replace hM1 := (hM1.regs (hs := [w1.heap.size]) (by simp)).keep0 c2
  replace hch := hch.then c2
  have hgg4 : g2 < w1.heap.size := hl1
  obtain ⟨g4, HG4⟩ := name_it w1.heap.size
  rw [HG4.out] at b4 hM1 hgg4
  have hg4 := HG4.out
  have hS : Hid (BarS w (w1.alloc (.cells #[.bool z1.neg, .string z1.num, .string z1.den] 26)) g cap g2 g4 G n k 0 M E z1 1) := Lib.hid
    ⟨fun d h => absurd h (by omega), hM1, by rw [KK_zero]; exact HV.out, fun i _ _ j _ => by rw [HG.out, gP, gau]; grind, HZ1.out, by rw [gP]; simp, b4, b1, hch⟩
  have hgg2 : g < g2 := by omega
  clear b1 b4 hM1 hch c1 c2 hz1
  go_wp2_with fail
  clear hg2 hg4
  go_loopw [3, 11] (fun nv iv wr => ∃ (c : Nat) (M1 : List (List Q3)) (E1 : Nat → Nat → Int) (zl : Q3) (D : Int), c ≤ n ∧ iv = .int .i64 c ∧ nv = .bool (gS G n c) ∧ BarS w wr g cap g2 g4 G n k c M1 E1 zl D) (fun _ iv _ => n - (intOf iv).toNat)
  case atStart => exact ⟨0, M, E, z1, 1, Nat.zero_le _, rfl, rfl, hS.out⟩
  case round =>
    obtain ⟨c, M1, E1, zl, D, hc, rfl, rfl, hS⟩ := hrel
    by_cases hlt : c < n
    · have d0 : decide ((c : Int) < (n : Int)) = true := decide_eq_true (by omega)
      have HFL := Lib.hid hS.full
      have HVV := Lib.hid hS.vals
      have HBAR := Lib.hid hS.bar
      have HLAST := Lib.hid hS.last
      have HEQ := Lib.hid hS.eq
      have hM := hS.mut_
      have box := hS.box
      have res := hS.res
      have hch := hS.chg
      clear hS
      have hKc := Nat.le_trans (KK_le k hc) HB.out
      obtain ⟨s, HSG⟩ := name_it (gS G n c)
      have hpe := Lib.hid (HBAR.out.piv hlt HFL.out)
      obtain ⟨p, HP⟩ := name_it (gp G n c)
      rw [HP.out] at hpe
      have hpb := gp_le (f := G) hc
      rw [HP.out] at hpb
      rw [HSG.out]
      go_wp2_with fail
      refine (pivotRow_any M1 (ratI E1) n n (KK k c) c c (some ⟨g, 0, none⟩) cap _ HVV.out hc hlt (by omega) (by omega) (by omega) hM.mtx).mono ?_
      rintro e w3 ⟨rfl, c3⟩
      rw [show pivI (ratI E1) n c c = (if p < n then (p : Int) else -1) by unfold pivI; rw [hpe.out]]
      replace hM := hM.keep0 c3
      replace box := box.keep c3 (by simp)
      replace res := res.keep c3 (by simp)
      replace hch := hch.then c3
      clear c3
      by_cases hpn : p < n
      · --MAIN
        rw [if_pos hpn]
        have hL1 := HVV.out.len
        have hpl : ¬ (p : Int) < 0 := by omega
        have hpl2 : decide ((p : Int) < 0) = false := decide_eq_false hpl
        have i1 : (0 : Int) ≤ (c : Int) := by omega
        have i2 : (c : Int) < (n : Int) := by omega
        have i3 : (0 : Int) ≤ (p : Int) := by omega
        have i4 : (p : Int) < (n : Int) := by omega
        have hsgn := Lib.hid (gS_succ (G := G) (n := n) (c := c))
        rw [HP.out, HSG.out] at hsgn
        by_cases hpc : p = c
        · have d1 : ((p : Int) != (c : Int)) = false := by simp [hpc]
          have hsg2 : Hid (gS G n (c + 1) = s) := Lib.hid (by rw [hsgn.out, if_pos hpc])
          have hT : Hid (BarT w w3 g cap g2 g4 G n k c (c + 1) M1 E1 zl) := Lib.hid ⟨hM, HVV.out.mono (KK_le k (by omega)), fun i hi _ => HVV.out.at_ hi, by
            have h9 := HBAR.out.swap (by rw [HP.out]; exact hpn) (by rw [HP.out]; exact hpb.1)
            rw [HP.out, hpc] at h9
            rwa [show swp (ratI E1) c c = ratI E1 from by funext i; unfold swp; split <;> simp_all] at h9, box, res, hch⟩
          clear hM box res hch hpc
          go_upto_region 12 with fail
          rw [← hsg2.out]
          have HFL2 := Lib.hid (HFL.out.succ (by rw [HP.out]; exact hpn))
          go_wp2_with fail
          go_loopw [7] (fun kv wx => ∃ (l : Nat) (M3 : List (List Q3)) (E3 : Nat → Nat → Int), c + 1 ≤ l ∧ l ≤ n ∧ kv = .int .i64 l ∧ BarT w wx g cap g2 g4 G n k c l M3 E3 zl) (fun kv _ => n - (intOf kv).toNat)
          case atStart => exact ⟨c + 1, _, _, Nat.le_refl _, hlt, by go_num, hT.out⟩
          case round =>
            obtain ⟨l, M3, E3, hl1, hln, rfl, hT3⟩ := hrel
            by_cases hll : l < n
            · have HV3 := Lib.hid hT3.vals
              have HLOW := Lib.hid hT3.low
              have HMID := Lib.hid hT3.mid
              have hM := hT3.mut_
              have box := hT3.box
              have res := hT3.res
              have hch := hT3.chg
              clear hT3
              have hL3 := HV3.out.len
              obtain ⟨Bl, cl, d0, _, _, hBl, _⟩ := hM.at_ (i := l) (by omega)
              obtain ⟨Bc, ccp, f0, _, _, hBc, _⟩ := hM.at_ (i := c) (by omega)
              have R1 := Lib.hid (HLOW.out l hll (.inl (Nat.le_refl _)))
              have R2 := Lib.hid (HLOW.out c hlt (.inr rfl))
              obtain ⟨yl, HYl⟩ := name_it (M3.getD l [])
              obtain ⟨yc, HYc⟩ := name_it (M3.getD c [])
              rw [HYl.out] at d0 hBl R1
              rw [HYc.out] at f0 hBc R2
              rw [R1.out.len] at d0
              rw [R2.out.len] at f0
              have hcl : Cel wr g l (.slice Bl n cl) := ⟨hM.lt, d0⟩
              have hcc : Cel wr g c (.slice Bc n ccp) := ⟨hM.lt, f0⟩
              have hD0 : D ≠ 0 := fun h => gP_ne c (by omega) HFL.out (by rw [← HEQ.out, h]; simp)
              have HA : Hid (∀ j, j < n → D ∣ (E3 c c * E3 l j - E3 l c * E3 c j) ∧ (((E3 c c * E3 l j - E3 l c * E3 c j) / D : Int) : Rat) = gP G n (c + 1) * gau G n (c + 1) l j) := Lib.hid fun j hj => by
                have hi := bar_all HINT.out (show c + 1 ≤ n by omega) HFL2.out (by omega) hl1 hll hj
                refine int_div hi hD0 ?_
                have h9 := HMID.out.val hlt (by rw [HP.out]; exact hpn) (by omega) hll hj
                rw [HEQ.out, ← h9]
                unfold ratI
                rw [Rat.intCast_sub, Rat.intCast_mul, Rat.intCast_mul]
              have hK1 := Nat.le_trans (KK_le k (show c + 1 ≤ n by omega)) HB.out
              have hne1 : g ≠ g4 := by omega
              have j1 : (0 : Int) ≤ (l : Int) := by omega
              have j2 : (l : Int) < (n : Int) := by omega
              have j3 : (0 : Int) ≤ (c : Int) := by omega
              have j4 : (c : Int) < (n : Int) := by omega
              clear d0 f0
              have boxc0 := box.c0
              have boxc1 := box.c1
              have boxc2 := box.c2
              have boxf0 := box.f0
              have boxf1 := box.f1
              have boxf2 := box.f2
              have boxl := box.lt
              have hclc := hcl.c
              have hccc := hcc.c
              go_wp2_with fail
              clear boxc0 boxc1 boxc2 boxf0 boxf1 boxf2 boxl hclc hccc
              have c8 : Chg [] wr wr.drew := (Chg.refl _ _).drew
              replace box := box.keep c8 (by simp)
              replace res := res.keep c8 (by simp)
              replace hcl := hcl.keep0 c8
              replace hcc := hcc.keep0 c8
              replace hM := hM.keep0 c8
              replace hBl := hBl.keep0 c8
              replace hBc := hBc.keep0 c8
              replace hch := hch.then c8
              clear c8
              have boxc0 := box.c0
              have boxc1 := box.c1
              have boxc2 := box.c2
              have boxf0 := box.f0
              have boxf1 := box.f1
              have boxf2 := box.f2
              have boxl := box.lt
              have hclc := hcl.c
              have hccc := hcc.c
              have fl := hM.frozen l
              go_region_with (first
                  | (go_at_call 52
                     (with_reducible refine (cleared_any yl yc (ratI E3 l) (ratI E3 c) n (KK k c) c Bl Bc cl ccp _ R1.out R2.out hlt (by omega) (by omega) hBl hBc).mono ?_)
                     rintro e w6 ⟨gz, zs, rfl, hgz, hzs, hz, c6⟩
                     rw [cleared_val] at hzs
                     have HZI : Hid (Row1 zs (fun j => ((E3 c c * E3 l j - E3 l c * E3 c j : Int) : Rat)) n (KK k (c + 1))) := Lib.hid ⟨hzs.len, fun j hj => ⟨(hzs.val j hj).enc, bd_ofInt (by rw [← KK_succ]; exact diff_lt (R2.out.val c hlt).ilt (R1.out.val j hj).ilt (R1.out.val c hlt).ilt (R2.out.val j hj).ilt) (by rw [← KK_succ]; omega)⟩⟩
                     have HZR := Lib.hid hz.rds
                     clear boxc0 boxc1 boxc2 boxf0 boxf1 boxf2 boxl hclc hccc
                     replace box := box.keep c6 (by simp)
                     replace res := res.keep c6 (by simp)
                     replace hcl := hcl.keep0 c6
                     replace hcc := hcc.keep0 c6
                     replace hM := hM.keep0 c6
                     replace hch := hch.then c6
                     clear c6
                     clear hzs hz fl hgz
                     have boxc0 := box.c0
                     have boxc1 := box.c1
                     have boxc2 := box.c2
                     have boxf0 := box.f0
                     have boxf1 := box.f1
                     have boxf2 := box.f2
                     have boxl := box.lt
                     have hclc := hcl.c
                     have hccc := hcc.c
                     have fl := hM.frozen l
                     skip)
                  | (go_at_call 51
                     (with_reducible refine (divided_any zs (fun j => E3 c c * E3 l j - E3 l c * E3 c j) n (KK k (c + 1)) (KK k c) zl D _ n _ HZI.out HLAST.out hD0 (fun j hj => (HA.out j hj).1) (by omega) (by omega) (by omega) HZR.out).mono ?_)
                     rintro e w7 ⟨gq, qs, rfl, hgq, hqs, hq, c7⟩
                     have HQS := Lib.hid hqs
                     have HQR := Lib.hid hq.rds
                     have HGQ : Hid (w.heap.size ≤ gq) := Lib.hid (Nat.le_trans hch.size hgq)
                     have HGQ2 : Hid (g4 < gq) := Lib.hid (Nat.lt_of_lt_of_le box.lt hgq)
                     clear boxc0 boxc1 boxc2 boxf0 boxf1 boxf2 boxl hclc hccc
                     replace box := box.keep c7 (by simp)
                     replace res := res.keep c7 (by simp)
                     replace hcl := hcl.keep0 c7
                     replace hcc := hcc.keep0 c7
                     replace hM := hM.keep0 c7
                     replace hch := hch.then c7
                     clear c7
                     clear hqs hq fl hgq
                     have boxc0 := box.c0
                     have boxc1 := box.c1
                     have boxc2 := box.c2
                     have boxf0 := box.f0
                     have boxf1 := box.f1
                     have boxf2 := box.f2
                     have boxl := box.lt
                     have hclc := hcl.c
                     have hccc := hcc.c
                     have fl := hM.frozen l
                     skip))
              all_goals
                have hgqg := HGQ.out
                have hgq4 := HGQ2.out
                have hst := hM.store (i := l) (B := some ⟨gq, 0, none⟩) (c := n) (xs := qs) (by omega) (by rw [HQS.out.len]; exact Nat.le_refl _) (by omega) HQR.out (fun _ a ha hm => by cases ha; simp at hm; omega)
                rw [HQS.out.len] at hst
                have hcs : Chg [g] w7 (w7.setCell ⟨g, l, none⟩ (.slice (some ⟨gq, 0, none⟩) n n)) := (Chg.refl [g] _).setCell (.inl (by simp)) _
                have hgne4 : g4 ≠ g := by omega
                have hgne2 : g2 ≠ g := by omega
                have hV4 := Lib.hid (HV3.out.set hll HQS.out)
                rw [ratI_if] at hV4
                have HTN : Hid (BarT w (w7.setCell ⟨g, l, none⟩ (.slice (some ⟨gq, 0, none⟩) n n)) g cap g2 g4 G n k c (l + 1) (M3.set l qs) (fun i => if i = l then (fun j => (E3 c c * E3 l j - E3 l c * E3 c j) / D) else E3 i) zl) := Lib.hid ⟨hst, hV4.out, fun i hi h => by
                    have hil : i ≠ l := by omega
                    rw [getD_setM M3 [] qs (by omega), if_neg hil]
                    have := HLOW.out i hi (by omega)
                    refine ⟨this.len, fun j hj => ?_⟩
                    have h8 := this.val j hj
                    show Val _ (((if i = l then (fun j => (E3 c c * E3 l j - E3 l c * E3 c j) / D) else E3 i) j : Int) : Rat) _
                    rw [if_neg hil]
                    exact h8, HMID.out.set2 (by omega) hll (fun j hj => by
                      show (((if l = l then (fun j => (E3 c c * E3 l j - E3 l c * E3 c j) / D) else E3 l) j : Int) : Rat) = _
                      rw [if_pos rfl]; exact (HA.out j hj).2) (fun i hi j => by
                      show (((if i = l then (fun j => (E3 c c * E3 l j - E3 l c * E3 c j) / D) else E3 i) j : Int) : Rat) = _
                      rw [if_neg hi]; rfl), box.keep hcs (by simp; exact hgne4), res.keep hcs (by simp; exact hgne2), hch.same hcs⟩
                clear boxc0 boxc1 boxc2 boxf0 boxf1 boxf2 boxl hclc hccc
                clear hst hcs hM box res hch fl hcl hcc
                go_wp2_with fail
                go_roundw
                case rel => exact ⟨l + 1, _, _, by omega, by omega, by go_num, HTN.out⟩
                case measure => simp [intOf]; omega
            · obtain rfl : n = l := by omega
              have hM := hT3.mut_
              have box := hT3.box
              have res := hT3.res
              have hch := hT3.chg
              have hV3 := hT3.vals
              have hbar := hT3.mid.last
              have hdg := hT3.mid.diag hlt
              have hlow := hT3.low c hlt (.inr rfl)
              clear hT3
              obtain ⟨Bc, ccp, f0, _, _, hBc, _⟩ := hM.at_ (i := c) (by rw [hV3.len]; exact hlt)
              obtain ⟨yc, HYc⟩ := name_it (M3.getD c [])
              rw [HYc.out] at f0 hBc hlow
              rw [hlow.len] at f0
              obtain ⟨gc, oc, rfl, hgc⟩ := hBc.form (by rw [hlow.len]; exact hn0)
              have e1 := hBc.el (j := c) (by rw [hlow.len]; exact hlt)
              have hv1 := (hlow.val c hlt).mono (KK_le k (show c ≤ c + 1 by omega))
              obtain ⟨z, HZ⟩ := name_it (yc.getD c q0)
              rw [HZ.out] at e1 hv1
              have hcl : Cel wr g c (.slice (some ⟨gc, oc, none⟩) n ccp) := ⟨hM.lt, f0⟩
              have hgne : g4 ≠ g := by omega
              have hst : Chg [g4] wr (((wr.setCell ⟨g4, 0, none⟩ (.bool z.neg)).setCell ⟨g4, 1, none⟩ (.string z.num)).setCell ⟨g4, 2, none⟩ (.string z.den)) := (Chg.refl [g4] wr).store3 (g := g4) (.inl (by simp)) (.bool z.neg) (.string z.num) (.string z.den)
              have hgne2 : g2 ≠ g4 := by omega
              have HSN : Hid (BarS w (((wr.setCell ⟨g4, 0, none⟩ (.bool z.neg)).setCell ⟨g4, 1, none⟩ (.string z.num)).setCell ⟨g4, 2, none⟩ (.string z.den)) g cap g2 g4 G n k (c + 1) M3 E3 z (E3 c c)) := Lib.hid
                ⟨HFL2.out, hM.keepg hst (by simp; omega) (fun x hx => hx), hV3, hbar, hv1, hdg, box.store _ _ _, res.keep hst (by simp; exact hgne2), hch.store3 (g := g4) (.inr (by have := HG2.out; omega)) _ _ _⟩
              have j1 : (0 : Int) ≤ (c : Int) := by omega
              have j2 : (c : Int) < (n : Int) := by omega
              clear hM res hch hV3 hbar hdg hlow hv1 hst f0 hBc
              have boxc0 := box.c0
              have boxc1 := box.c1
              have boxc2 := box.c2
              have boxf0 := box.f0
              have boxf1 := box.f1
              have boxf2 := box.f2
              have boxl := box.lt
              have e1a := e1.a
              have e1b := e1.b
              have e1c := e1.c
              have hclc := hcl.c
              go_wp2_with fail
              go_roundw
              case rel => exact ⟨c + 1, _, _, _, _, by omega, by go_num, rfl, HSN.out⟩
              case measure => simp [intOf]; omega
        · have d1 : ((p : Int) != (c : Int)) = true := by simp; omega
          have hsg2 : Hid (gS G n (c + 1) = !s) := Lib.hid (by rw [hsgn.out, if_neg hpc])
          have hsw := Lib.hid (HVV.out.swap (r := c) (p := p) hlt hpn)
          obtain ⟨Bp, cp2, d0, hd1, hd2, hBp, oBp⟩ := hM.at_ (i := p) (by omega)
          obtain ⟨Br, cr2, f0, hf1, hf2, hBr, oBr⟩ := hM.at_ (i := c) (by omega)
          have f1 := hM.frozen p
          have f2 := hM.frozen c
          have hM2 := (hM.store (i := c) (by omega) hd1 hd2 hBp oBp)
          have hc2 : Chg [g] w3 (w3.setCell ⟨g, c, none⟩ (.slice Bp (M1.getD p []).length cp2)) := (Chg.refl [g] _).setCell (.inl (by simp)) _
          have hM3 := Lib.hid ((hM2.store (i := p) (by rw [List.length_set]; omega) hf1 hf2 (hBr.keepN hc2 (fun hl a ha hm => oBr hl a ha (by simp at hm; subst hm; simp))) oBr).keep0 ((Chg.refl [] _).drew))
          have hc3 := ((hc2.setCell (p := ⟨g, p, none⟩) (.inl (by simp)) (.slice Br (M1.getD c []).length cr2)).drew)
          have hgne4 : g4 ≠ g := by omega
          have hgne2 : g2 ≠ g := by omega
          have box2 := Lib.hid (box.keep hc3 (by simp; exact hgne4))
          have res2 := Lib.hid (res.keep hc3 (by simp; exact hgne2))
          have hch2 := Lib.hid (hch.same hc3)
          clear hM2 hc2 hc3
          have HT0 := Lib.hid (fun (f : Nat → Nat → Int) (hf : ratI f = swp (ratI E1) c p) => (⟨hM3.out, by rw [hf]; exact hsw.out.mono (KK_le k (by omega)), fun i hi _ => by rw [hf]; exact hsw.out.at_ hi, by
            have h9 := HBAR.out.swap (by rw [HP.out]; exact hpn) (by rw [HP.out]; exact hpb.1)
            rw [HP.out] at h9
            rw [hf]; exact h9, box2.out, res2.out, hch2.out⟩ : BarT w _ g cap g2 g4 G n k c (c + 1) _ f zl))
          have hT := Lib.hid (HT0.out (swI E1 c p) (swp_ratI E1 c p).symm)
          clear hM hBp hBr oBp oBr hd1 hd2 hf1 hf2 box res hch
          obtain ⟨yp, HYp⟩ := name_it (M1.getD p [])
          obtain ⟨yr, HYr⟩ := name_it (M1.getD c [])
          rw [HYp.out] at d0 hT
          rw [HYr.out] at f0 hT
          have hrp : ¬ c = p := fun h => hpc h.symm
          clear HT0 hM3 box2 res2 hch2 hsw
          go_upto_region 10 with fail
          go_region
          clear d0 f0 f1 f2
          go_upto_region 12 with fail
          rw [← hsg2.out]
          have HFL2 := Lib.hid (HFL.out.succ (by rw [HP.out]; exact hpn))
          go_wp2_with fail
          go_loopw [7] (fun kv wx => ∃ (l : Nat) (M3 : List (List Q3)) (E3 : Nat → Nat → Int), c + 1 ≤ l ∧ l ≤ n ∧ kv = .int .i64 l ∧ BarT w wx g cap g2 g4 G n k c l M3 E3 zl) (fun kv _ => n - (intOf kv).toNat)
          case atStart => exact ⟨c + 1, _, _, Nat.le_refl _, hlt, by go_num, hT.out⟩
          case round =>
            obtain ⟨l, M3, E3, hl1, hln, rfl, hT3⟩ := hrel
            by_cases hll : l < n
            · have HV3 := Lib.hid hT3.vals
              have HLOW := Lib.hid hT3.low
              have HMID := Lib.hid hT3.mid
              have hM := hT3.mut_
              have box := hT3.box
              have res := hT3.res
              have hch := hT3.chg
              clear hT3
              have hL3 := HV3.out.len
              obtain ⟨Bl, cl, d0, _, _, hBl, _⟩ := hM.at_ (i := l) (by omega)
              obtain ⟨Bc, ccp, f0, _, _, hBc, _⟩ := hM.at_ (i := c) (by omega)
              have R1 := Lib.hid (HLOW.out l hll (.inl (Nat.le_refl _)))
              have R2 := Lib.hid (HLOW.out c hlt (.inr rfl))
              obtain ⟨yl, HYl⟩ := name_it (M3.getD l [])
              obtain ⟨yc, HYc⟩ := name_it (M3.getD c [])
              rw [HYl.out] at d0 hBl R1
              rw [HYc.out] at f0 hBc R2
              rw [R1.out.len] at d0
              rw [R2.out.len] at f0
              have hcl : Cel wr g l (.slice Bl n cl) := ⟨hM.lt, d0⟩
              have hcc : Cel wr g c (.slice Bc n ccp) := ⟨hM.lt, f0⟩
              have hD0 : D ≠ 0 := fun h => gP_ne c (by omega) HFL.out (by rw [← HEQ.out, h]; simp)
              have HA : Hid (∀ j, j < n → D ∣ (E3 c c * E3 l j - E3 l c * E3 c j) ∧ (((E3 c c * E3 l j - E3 l c * E3 c j) / D : Int) : Rat) = gP G n (c + 1) * gau G n (c + 1) l j) := Lib.hid fun j hj => by
                have hi := bar_all HINT.out (show c + 1 ≤ n by omega) HFL2.out (by omega) hl1 hll hj
                refine int_div hi hD0 ?_
                have h9 := HMID.out.val hlt (by rw [HP.out]; exact hpn) (by omega) hll hj
                rw [HEQ.out, ← h9]
                unfold ratI
                rw [Rat.intCast_sub, Rat.intCast_mul, Rat.intCast_mul]
              have hK1 := Nat.le_trans (KK_le k (show c + 1 ≤ n by omega)) HB.out
              have hne1 : g ≠ g4 := by omega
              have j1 : (0 : Int) ≤ (l : Int) := by omega
              have j2 : (l : Int) < (n : Int) := by omega
              have j3 : (0 : Int) ≤ (c : Int) := by omega
              have j4 : (c : Int) < (n : Int) := by omega
              clear d0 f0
              have boxc0 := box.c0
              have boxc1 := box.c1
              have boxc2 := box.c2
              have boxf0 := box.f0
              have boxf1 := box.f1
              have boxf2 := box.f2
              have boxl := box.lt
              have hclc := hcl.c
              have hccc := hcc.c
              go_wp2_with fail
              clear boxc0 boxc1 boxc2 boxf0 boxf1 boxf2 boxl hclc hccc
              have c8 : Chg [] wr wr.drew := (Chg.refl _ _).drew
              replace box := box.keep c8 (by simp)
              replace res := res.keep c8 (by simp)
              replace hcl := hcl.keep0 c8
              replace hcc := hcc.keep0 c8
              replace hM := hM.keep0 c8
              replace hBl := hBl.keep0 c8
              replace hBc := hBc.keep0 c8
              replace hch := hch.then c8
              clear c8
              have boxc0 := box.c0
              have boxc1 := box.c1
              have boxc2 := box.c2
              have boxf0 := box.f0
              have boxf1 := box.f1
              have boxf2 := box.f2
              have boxl := box.lt
              have hclc := hcl.c
              have hccc := hcc.c
              have fl := hM.frozen l
              go_region_with (first
                  | (go_at_call 52
                     (with_reducible refine (cleared_any yl yc (ratI E3 l) (ratI E3 c) n (KK k c) c Bl Bc cl ccp _ R1.out R2.out hlt (by omega) (by omega) hBl hBc).mono ?_)
                     rintro e w6 ⟨gz, zs, rfl, hgz, hzs, hz, c6⟩
                     rw [cleared_val] at hzs
                     have HZI : Hid (Row1 zs (fun j => ((E3 c c * E3 l j - E3 l c * E3 c j : Int) : Rat)) n (KK k (c + 1))) := Lib.hid ⟨hzs.len, fun j hj => ⟨(hzs.val j hj).enc, bd_ofInt (by rw [← KK_succ]; exact diff_lt (R2.out.val c hlt).ilt (R1.out.val j hj).ilt (R1.out.val c hlt).ilt (R2.out.val j hj).ilt) (by rw [← KK_succ]; omega)⟩⟩
                     have HZR := Lib.hid hz.rds
                     clear boxc0 boxc1 boxc2 boxf0 boxf1 boxf2 boxl hclc hccc
                     replace box := box.keep c6 (by simp)
                     replace res := res.keep c6 (by simp)
                     replace hcl := hcl.keep0 c6
                     replace hcc := hcc.keep0 c6
                     replace hM := hM.keep0 c6
                     replace hch := hch.then c6
                     clear c6
                     clear hzs hz fl hgz
                     have boxc0 := box.c0
                     have boxc1 := box.c1
                     have boxc2 := box.c2
                     have boxf0 := box.f0
                     have boxf1 := box.f1
                     have boxf2 := box.f2
                     have boxl := box.lt
                     have hclc := hcl.c
                     have hccc := hcc.c
                     have fl := hM.frozen l
                     skip)
                  | (go_at_call 51
                     (with_reducible refine (divided_any zs (fun j => E3 c c * E3 l j - E3 l c * E3 c j) n (KK k (c + 1)) (KK k c) zl D _ n _ HZI.out HLAST.out hD0 (fun j hj => (HA.out j hj).1) (by omega) (by omega) (by omega) HZR.out).mono ?_)
                     rintro e w7 ⟨gq, qs, rfl, hgq, hqs, hq, c7⟩
                     have HQS := Lib.hid hqs
                     have HQR := Lib.hid hq.rds
                     have HGQ : Hid (w.heap.size ≤ gq) := Lib.hid (Nat.le_trans hch.size hgq)
                     have HGQ2 : Hid (g4 < gq) := Lib.hid (Nat.lt_of_lt_of_le box.lt hgq)
                     clear boxc0 boxc1 boxc2 boxf0 boxf1 boxf2 boxl hclc hccc
                     replace box := box.keep c7 (by simp)
                     replace res := res.keep c7 (by simp)
                     replace hcl := hcl.keep0 c7
                     replace hcc := hcc.keep0 c7
                     replace hM := hM.keep0 c7
                     replace hch := hch.then c7
                     clear c7
                     clear hqs hq fl hgq
                     have boxc0 := box.c0
                     have boxc1 := box.c1
                     have boxc2 := box.c2
                     have boxf0 := box.f0
                     have boxf1 := box.f1
                     have boxf2 := box.f2
                     have boxl := box.lt
                     have hclc := hcl.c
                     have hccc := hcc.c
                     have fl := hM.frozen l
                     skip))
              all_goals
                have hgqg := HGQ.out
                have hgq4 := HGQ2.out
                have hst := hM.store (i := l) (B := some ⟨gq, 0, none⟩) (c := n) (xs := qs) (by omega) (by rw [HQS.out.len]; exact Nat.le_refl _) (by omega) HQR.out (fun _ a ha hm => by cases ha; simp at hm; omega)
                rw [HQS.out.len] at hst
                have hcs : Chg [g] w7 (w7.setCell ⟨g, l, none⟩ (.slice (some ⟨gq, 0, none⟩) n n)) := (Chg.refl [g] _).setCell (.inl (by simp)) _
                have hgne4 : g4 ≠ g := by omega
                have hgne2 : g2 ≠ g := by omega
                have hV4 := Lib.hid (HV3.out.set hll HQS.out)
                rw [ratI_if] at hV4
                have HTN : Hid (BarT w (w7.setCell ⟨g, l, none⟩ (.slice (some ⟨gq, 0, none⟩) n n)) g cap g2 g4 G n k c (l + 1) (M3.set l qs) (fun i => if i = l then (fun j => (E3 c c * E3 l j - E3 l c * E3 c j) / D) else E3 i) zl) := Lib.hid ⟨hst, hV4.out, fun i hi h => by
                    have hil : i ≠ l := by omega
                    rw [getD_setM M3 [] qs (by omega), if_neg hil]
                    have := HLOW.out i hi (by omega)
                    refine ⟨this.len, fun j hj => ?_⟩
                    have h8 := this.val j hj
                    show Val _ (((if i = l then (fun j => (E3 c c * E3 l j - E3 l c * E3 c j) / D) else E3 i) j : Int) : Rat) _
                    rw [if_neg hil]
                    exact h8, HMID.out.set2 (by omega) hll (fun j hj => by
                      show (((if l = l then (fun j => (E3 c c * E3 l j - E3 l c * E3 c j) / D) else E3 l) j : Int) : Rat) = _
                      rw [if_pos rfl]; exact (HA.out j hj).2) (fun i hi j => by
                      show (((if i = l then (fun j => (E3 c c * E3 l j - E3 l c * E3 c j) / D) else E3 i) j : Int) : Rat) = _
                      rw [if_neg hi]; rfl), box.keep hcs (by simp; exact hgne4), res.keep hcs (by simp; exact hgne2), hch.same hcs⟩
                clear boxc0 boxc1 boxc2 boxf0 boxf1 boxf2 boxl hclc hccc
                clear hst hcs hM box res hch fl hcl hcc
                go_wp2_with fail
                go_roundw
                case rel => exact ⟨l + 1, _, _, by omega, by omega, by go_num, HTN.out⟩
                case measure => simp [intOf]; omega
            · obtain rfl : n = l := by omega
              have hM := hT3.mut_
              have box := hT3.box
              have res := hT3.res
              have hch := hT3.chg
              have hV3 := hT3.vals
              have hbar := hT3.mid.last
              have hdg := hT3.mid.diag hlt
              have hlow := hT3.low c hlt (.inr rfl)
              clear hT3
              obtain ⟨Bc, ccp, f0, _, _, hBc, _⟩ := hM.at_ (i := c) (by rw [hV3.len]; exact hlt)
              obtain ⟨yc, HYc⟩ := name_it (M3.getD c [])
              rw [HYc.out] at f0 hBc hlow
              rw [hlow.len] at f0
              obtain ⟨gc, oc, rfl, hgc⟩ := hBc.form (by rw [hlow.len]; exact hn0)
              have e1 := hBc.el (j := c) (by rw [hlow.len]; exact hlt)
              have hv1 := (hlow.val c hlt).mono (KK_le k (show c ≤ c + 1 by omega))
              obtain ⟨z, HZ⟩ := name_it (yc.getD c q0)
              rw [HZ.out] at e1 hv1
              have hcl : Cel wr g c (.slice (some ⟨gc, oc, none⟩) n ccp) := ⟨hM.lt, f0⟩
              have hgne : g4 ≠ g := by omega
              have hst : Chg [g4] wr (((wr.setCell ⟨g4, 0, none⟩ (.bool z.neg)).setCell ⟨g4, 1, none⟩ (.string z.num)).setCell ⟨g4, 2, none⟩ (.string z.den)) := (Chg.refl [g4] wr).store3 (g := g4) (.inl (by simp)) (.bool z.neg) (.string z.num) (.string z.den)
              have hgne2 : g2 ≠ g4 := by omega
              have HSN : Hid (BarS w (((wr.setCell ⟨g4, 0, none⟩ (.bool z.neg)).setCell ⟨g4, 1, none⟩ (.string z.num)).setCell ⟨g4, 2, none⟩ (.string z.den)) g cap g2 g4 G n k (c + 1) M3 E3 z (E3 c c)) := Lib.hid
                ⟨HFL2.out, hM.keepg hst (by simp; omega) (fun x hx => hx), hV3, hbar, hv1, hdg, box.store _ _ _, res.keep hst (by simp; exact hgne2), hch.store3 (g := g4) (.inr (by have := HG2.out; omega)) _ _ _⟩
              have j1 : (0 : Int) ≤ (c : Int) := by omega
              have j2 : (c : Int) < (n : Int) := by omega
              clear hM res hch hV3 hbar hdg hlow hv1 hst f0 hBc
              have boxc0 := box.c0
              have boxc1 := box.c1
              have boxc2 := box.c2
              have boxf0 := box.f0
              have boxf1 := box.f1
              have boxf2 := box.f2
              have boxl := box.lt
              have e1a := e1.a
              have e1b := e1.b
              have e1c := e1.c
              have hclc := hcl.c
              go_wp2_with fail
              go_roundw
              case rel => exact ⟨c + 1, _, _, _, _, by omega, by go_num, rfl, HSN.out⟩
              case measure => simp [intOf]; omega
      · rw [if_neg hpn]
        have HNF := Lib.hid (HNO.out (fun h => hpn (by have := h c hlt; rwa [HP.out] at this)))
        have S := res.store (.bool false) (.string ⟨#[]⟩) (.string ⟨#[]⟩)
        have hchS := hch.store3 (g := g2) (.inr (by rw [HG2.out]; exact Nat.le_refl _)) (.bool false) (.string ⟨#[]⟩) (.string ⟨#[]⟩)
        have resc0 := res.c0
        have resc1 := res.c1
        have resc2 := res.c2
        have resf0 := res.f0
        have resf1 := res.f1
        have resf2 := res.f2
        have resl := res.lt
        go_wp2_with fail
        exact bodyPost_ret (v := .agg #[.bool false, .string ⟨#[]⟩, .string ⟨#[]⟩]) (by simp [results, Try.results26, go_sem, S.c0, S.c1, S.c2]) rfl ⟨q0, rfl, by rw [HNF.out]; exact Val_zero.mono (by have := KK_le k (Nat.zero_le n); rw [KK_zero] at this; omega), hchS⟩
    · obtain rfl : n = c := by omega
      have HFL := Lib.hid hS.full
      have HLAST := Lib.hid hS.last
      have HEQ := Lib.hid hS.eq
      have box := hS.box
      have res := hS.res
      have hch := hS.chg
      have HY := Lib.hid (HYES.out HFL.out)
      have hgl := res.lt
      clear hS
      have hne : g2 ≠ g4 := by omega
      cases hs : gS G n n with
      | true =>
        have HYT : Hid (R = -(D : Rat)) := Lib.hid (by rw [HY.out, hs, HEQ.out]; rfl)
        clear hs
        have boxc0 := box.c0
        have boxc1 := box.c1
        have boxc2 := box.c2
        have boxf0 := box.f0
        have boxf1 := box.f1
        have boxf2 := box.f2
        have boxl := box.lt
        go_wp2_with fail
        clear boxc0 boxc1 boxc2 boxf0 boxf1 boxf2 boxl
        refine (NegateN zl (D : Rat) (KK k n) _ HLAST.out.num (by have := HB.out; omega)).mono ?_
        rintro e w5 ⟨y, rfl, hy, c5⟩
        have HYV := Lib.hid hy
        replace res := res.keep c5 (by simp)
        replace hch := hch.then c5
        have S := res.store (.bool y.neg) (.string y.num) (.string y.den)
        have hchS := hch.store3 (g := g2) (.inr (by rw [HG2.out]; exact Nat.le_refl _)) (.bool y.neg) (.string y.num) (.string y.den)
        clear hy c5
        have resc0 := res.c0
        have resc1 := res.c1
        have resc2 := res.c2
        have resf0 := res.f0
        have resf1 := res.f1
        have resf2 := res.f2
        have resl := res.lt
        go_wp2_with fail
        exact bodyPost_ret (v := .agg #[.bool y.neg, .string y.num, .string y.den]) (by simp [results, Try.results26, go_sem, S.c0, S.c1, S.c2]) rfl ⟨y, rfl, by rw [HYT.out]; exact HYV.out, hchS⟩
      | false =>
        have HYT : Hid (R = (D : Rat)) := Lib.hid (by rw [HY.out, hs, HEQ.out]; rfl)
        clear hs
        have S := res.store (.bool zl.neg) (.string zl.num) (.string zl.den)
        have hchS := hch.store3 (g := g2) (.inr (by rw [HG2.out]; exact Nat.le_refl _)) (.bool zl.neg) (.string zl.num) (.string zl.den)
        have boxc0 := box.c0
        have boxc1 := box.c1
        have boxc2 := box.c2
        have boxf0 := box.f0
        have boxf1 := box.f1
        have boxf2 := box.f2
        have boxl := box.lt
        have resc0 := res.c0
        have resc1 := res.c1
        have resc2 := res.c2
        have resf0 := res.f0
        have resf1 := res.f1
        have resf2 := res.f2
        have resl := res.lt
        go_wp2_with fail
        exact bodyPost_ret (v := .agg #[.bool zl.neg, .string zl.num, .string zl.den]) (by simp [results, Try.results26, go_sem, S.c0, S.c1, S.c2]) rfl ⟨zl, rfl, by rw [HYT.out]; exact HLAST.out, hchS⟩
end Go.Proofs.Ytpaochhaenehmaa
