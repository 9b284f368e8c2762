/-
  Walks of the reference: long.
-/
import Derived.Test.YtogciehmdlfkfaaGreatDoorGI
namespace Go.Proofs.YtogciehmdlfkfaaGreatDoor
open Go.RowKit Nd

set_option maxRecDepth 100000 in
set_option maxHeartbeats 2000000 in
theorem long_row (ga ca gb cb : Nat) (A C : List Nat) (w : World) (hA : Row 120 .u32 w ga ca A) (hC : Row 120 .u32 w gb cb C) (dA : dig 4294967296 A) (dC : dig 4294967296 C) (nC : noz C)
    (la : A.length ≤ 1099511627775) (hC2 : 2 ≤ C.length) (hle : C.length ≤ A.length) :
    Calls Tryz.prog 156 #[.slice (some ⟨ga, 0, none⟩) A.length ca, .slice (some ⟨gb, 0, none⟩) C.length cb] w fun e w' => ∃ (g1 c1 g2 c2 : Nat) (Q R : List Nat),
      e = .returned (.tuple #[.slice (some ⟨g1, 0, none⟩) Q.length c1, .slice (some ⟨g2, 0, none⟩) R.length c2]) ∧ Row 120 .u32 w' g1 c1 Q ∧ Row 120 .u32 w' g2 c2 R ∧ w.heap.size ≤ g1 ∧ w.heap.size ≤ g2 ∧
      dig 4294967296 Q ∧ dig 4294967296 R ∧ noz Q ∧ noz R ∧ lv 4294967296 Q = lv 4294967296 A / lv 4294967296 C ∧ lv 4294967296 R = lv 4294967296 A % lv 4294967296 C ∧ Q.length ≤ A.length ∧ R.length ≤ A.length ∧ Chg [] w w' := by
  obtain ⟨i0, hi, hz0, hz1, hz2⟩ := info_parts Tryz.info32
  obtain ⟨na, HNA⟩ := name_it A.length
  obtain ⟨n, HN⟩ := name_it C.length
  rw [HNA.out] at la hle ⊢
  rw [HN.out] at hC2 hle ⊢
  have hnn : n ≤ 1099511627775 := by omega
  have HLE := Lib.hid hle
  have HLA := Lib.hid la
  clear hle la
  have htop : 1 ≤ C.getD (n - 1) 0 := by
    obtain ⟨m, x, rfl⟩ : ∃ m x, C = m ++ [x] := ⟨C.dropLast, C.getLast (by rintro rfl; have := HN.out; simp at this; omega), (dropLast_last C (by rintro rfl; have := HN.out; simp at this; omega)).symm⟩
    have hx : x ≠ 0 := by rintro rfl; simp [noz] at nC
    have : n - 1 = m.length := by have := HN.out; simp at this; omega
    rw [this]; simp; omega
  have hct := hC.cell (n - 1) (by rw [HN.out]; omega)
  obtain ⟨t, HT⟩ := name_it (C.getD (n - 1) 0)
  rw [HT.out] at hct htop
  have ht : t < 4294967296 := by rw [← HT.out]; exact dig_getD (by omega) dC _
  go_enter Tryz.func156, Tryz.ntmps156
  go_wp2_with fail
  go_loop [7] (fun sv => ∃ s : Nat, s ≤ 31 ∧ sv = .int .u64 s ∧ t * 2 ^ s < 4294967296) (fun sv => 32 - (intOf sv).toNat)
  case atStart => exact ⟨0, by omega, rfl, by simpa using ht⟩
  case round =>
    obtain ⟨s, hs, rfl, hts⟩ := hrel
    have e0 : ((t : Int) * 2 ^ s) = ((t * 2 ^ s : Nat) : Int) := by simp
    have hstep := s_step (s := s) htop
    have HTS := Lib.hid hts
    obtain ⟨x, HX⟩ := name_it (t * 2 ^ s)
    rw [HX.out] at e0 hstep hts
    have e1 : ((t : Int) * 2 ^ s % 4294967296) = (x : Int) := by rw [e0]; omega
    clear e0
    have hlt : ((t : Int) * 2 ^ s % 4294967296 < 2147483648) ↔ x < 2147483648 := by rw [e1]; omega
    by_cases hx : x < 2147483648
    · have h3 := hlt.2 hx
      have HS := Lib.hid (hstep hx)
      clear hlt hstep e1 HX HTS hts hx
      go_wp2_with fail
      go_roundw
      case rel => exact ⟨s + 1, HS.out.1, by go_num, HS.out.2⟩
      case measure => simp [intOf]; have := HS.out.1; omega
    · have h3 : ¬ ((t : Int) * 2 ^ s % 4294967296 < 2147483648) := fun h => hx (hlt.1 h)
      clear hlt hstep e1 HX hts hx
      go_wp2_with fail
      rw [← HNA.out]
      refine (shifted_row ga ca s A w hA dA (by rw [HNA.out]; exact HLA.out) hs).mono ?_
      rintro e w1 ⟨gu, U0, rfl, hU, hgu, lU, dU, vU, c1⟩
      rw [HNA.out] at hU lU ⊢
      have hC1 := hC.keep c1 (by simp)
      have VU := Lib.hid vU
      clear vU h3
      go_wp2_with fail
      rw [← HN.out]
      refine (shifted_row gb cb s C w1 hC1 dC (by rw [HN.out]; exact hnn) hs).mono ?_
      rintro e w2 ⟨gv, V0, rfl, hV0, hgv, lV, dV0, vV, c2⟩
      rw [HN.out] at hV0 lV ⊢
      have hch2 := c1.then c2
      have hU2 := hU.keep c2 (by simp)
      have hgvu : gv ≠ gu := by have := hU.lt; omega
      have hgv2 : Hid (w.heap.size ≤ gv) := by show _ ≤ _; have := c1.size; omega
      have hVt : Hid (lv 4294967296 (V0.take n) = lv 4294967296 C * 2 ^ s) := by
        obtain ⟨k, hk⟩ : ∃ k, n = k + 1 := ⟨n - 1, by omega⟩
        have h1 := shl_top (n := k) dC (by rw [HN.out]; exact hk) (by rw [← HT.out, hk]; rfl) HTS.out hs
        rw [← hk] at h1
        show _ = _
        rw [take_lv lV (by rw [vV]; exact h1), vV]
      have hV := hV0.take n (by omega)
      have HGU := Lib.hid hgu
      have HLU := Lib.hid lU
      have HLV := Lib.hid lV
      have HVU := Lib.hid hgvu
      clear c1 c2 vV hC1 hgv hgu lU hU lV hgvu hV0 hA hC
      obtain ⟨V, HVV⟩ := name_it (V0.take n)
      rw [HVV.out] at hV hVt
      have hq : Hid ((n : Nat) ≤ na) := HLE
      have hqi : Hid ((na : Int) - (n : Int) + 1 = ((na - n + 1 : Nat) : Int)) := by show _ = _; have := hq.out; omega
      obtain ⟨m, HM⟩ := name_it (na - n + 1)
      have hna := HLA.out
      have hle := hq.out
      have hmb : m ≤ 1099511627776 := by have := HM.out; omega
      go_wp2_with (at_make; refine wpList_make_cap _ rfl (.tmp 50) (.tmp 50) 118 rfl 120 i0 .u32 Tryz.underlying118 hi hz0 hz1 .i64 .i64 _ _ m m rfl rfl (by have := HM.out; omega) (by have := HM.out; omega) (Nat.le_refl _) (by rw [hz2]; omega) (by omega) ?_)
      intro w3 hQ hch3
      have hU3 := hU2.keep hch3 (by simp)
      have hV3 := hV.keep hch3 (by simp)
      have hch := hch2.then hch3
      have hqu : Hid (w2.heap.size ≠ gu) := by have := hU2.lt; show _ ≠ _; omega
      have hqv : Hid (w2.heap.size ≠ gv) := by have := hV.lt; show _ ≠ _; omega
      have hqw : Hid (w.heap.size ≤ w2.heap.size) := hch2.size
      obtain ⟨gq, HGQ⟩ := name_it w2.heap.size
      rw [HGQ.out] at hQ hqu hqv hqw ⊢
      clear hU2 hV hch2 hch3 hi hz0 hz1 hz2
      go_wp2_with fail
      go_loopw [11] (fun jv wr => ∃ (t : Nat) (L Q : List Nat), t ≤ m ∧ jv = .int .i64 ((t : Int) - 1) ∧ DivI 4294967296 (lv 4294967296 A * 2 ^ s) V (na + 1) n t L Q ∧
          Row 120 .u32 wr gu (na + 1) L ∧ Row 120 .u32 wr gv (n + 1) V ∧ Row 120 .u32 wr gq m Q ∧ Chg [] w wr)
        (fun jv _ => (intOf jv + 1).toNat)
      case atStart =>
        refine ⟨m, U0, _, Nat.le_refl _, ?_, ?_, hU3, hV3, hQ, hch⟩
        · have := HM.out; congr 1; omega
        · have e : na + 1 = m + n := by have := HM.out; omega
          rw [e, ← VU.out]
          refine DivI.start2 (by omega) dU (by rw [HLU.out]; exact e) ?_ (by omega)
          rw [VU.out, hVt.out]
          exact top_small (by omega) dA nC HN.out (by omega) (by rw [HNA.out]; exact e)
      case round =>
        clear hU3 hV3 hQ hch
        obtain ⟨t', L, Q, htm, rfl, hD, hu, hv, hq, hch⟩ := hrel
        by_cases ht0 : 1 ≤ t'
        · as_aux_lemma =>
          obtain ⟨j, rfl⟩ : ∃ j, t' = j + 1 := ⟨t' - 1, by omega⟩
          have hji : ((j + 1 : Nat) : Int) - 1 = (j : Int) := by omega
          rw [hji]
          clear hji ht0
          obtain ⟨k, hnk⟩ : ∃ k, n = k + 2 := ⟨n - 2, by omega⟩
          have hlt := hD.lt (by omega)
          rw [show n + 1 = k + 3 by omega] at hlt
          have dV : dig 4294967296 V := by rw [← HVV.out]; exact dig_take dV0 _
          have hVl : V.length = k + 2 := by rw [← HVV.out, List.length_take, HLV.out]; omega
          have hCl : C.length = k + 2 := by rw [HN.out]; exact hnk
          have hv1 : 1 ≤ V.getD (k + 1) 0 := by
            refine top_pos (by omega) dV hVl ?_
            rw [hVt.out]
            have h1 := lv_ge (B := 4294967296) C nC (by rintro rfl; simp at hCl)
            rw [hCl, show k + 2 - 1 = k + 1 by omega] at h1
            have h2 := Nat.mul_le_mul_left (lv 4294967296 C) (Nat.two_pow_pos s)
            omega
          have hG := GuD.of_list (o := j) (k := k) (by omega) hD.digL dV hVl hv1 hlt
          have hjm : j + n ≤ na := by have := HM.out; omega
          have hc0 := hu.cell (j + n) (by rw [hD.lenL]; omega)
          have hc1 := hu.cell (j + n - 1) (by rw [hD.lenL]; omega)
          have hc2 := hu.cell (j + n - 2) (by rw [hD.lenL]; omega)
          have hd1 := hv.cell (n - 1) (by rw [hVl]; omega)
          have hd2 := hv.cell (n - 2) (by rw [hVl]; omega)
          rw [show L.getD (j + n) 0 = L.getD (j + (k + 2)) 0 by rw [hnk]] at hc0
          rw [show L.getD (j + n - 1) 0 = L.getD (j + (k + 1)) 0 by congr 1; omega] at hc1
          rw [show L.getD (j + n - 2) 0 = L.getD (j + k) 0 by congr 1; omega] at hc2
          rw [show V.getD (n - 1) 0 = V.getD (k + 1) 0 by congr 1; omega] at hd1
          rw [show V.getD (n - 2) 0 = V.getD k 0 by congr 1; omega] at hd2
          have b0 := dig_getD (B := 4294967296) (by omega) hD.digL (j + (k + 2))
          have b1 := dig_getD (B := 4294967296) (by omega) hD.digL (j + (k + 1))
          have b2 := dig_getD (B := 4294967296) (by omega) hD.digL (j + k)
          have a1 := dig_getD (B := 4294967296) (by omega) dV (k + 1)
          have a2 := dig_getD (B := 4294967296) (by omega) dV k
          have HD := Lib.hid hD
          have HDV := Lib.hid dV
          obtain ⟨u2, HU2⟩ := name_it (L.getD (j + (k + 2)) 0)
          obtain ⟨u1, HU1⟩ := name_it (L.getD (j + (k + 1)) 0)
          obtain ⟨u3, HU3⟩ := name_it (L.getD (j + k) 0)
          obtain ⟨v1, HV1⟩ := name_it (V.getD (k + 1) 0)
          obtain ⟨v2, HV2⟩ := name_it (V.getD k 0)
          obtain ⟨qq, HQQ⟩ := name_it (win 4294967296 L j (k + 3) / lv 4294967296 V)
          rw [HU2.out] at hc0 b0 hG
          rw [HU1.out] at hc1 b1 hG
          rw [HU3.out] at hc2 b2 hG
          rw [HV1.out] at hd1 a1 hG hv1
          rw [HV2.out] at hd2 a2 hG
          rw [HQQ.out] at hG
          obtain ⟨hG, htl⟩ := hG
          have hor := or_two b0 b1
          obtain ⟨top, HTP⟩ := name_it (u2 * 4294967296 + u1)
          rw [HTP.out] at hor hG htl
          have htop64 : top ≤ 18446744073709551615 := by have := HTP.out; omega
          have HG := Lib.hid hG
          have HTL := Lib.hid htl
          clear hD hG htl hlt dV
          have HE1 : Hid (L.getD (j + n - 2) 0 = u3) := by show _ = _; rw [← HU3.out]; congr 1; omega
          have HE2 : Hid (V.getD (n - 1) 0 = v1) := by show _ = _; rw [← HV1.out]; congr 1; omega
          have HE3 : Hid (V.getD (n - 2) 0 = v2) := by show _ = _; rw [← HV2.out]; congr 1; omega
          have HNK := Lib.hid hnk
          clear hnk hCl
          obtain ⟨g0, HG0⟩ := name_it (top / v1)
          obtain ⟨r0, HR0⟩ := name_it (top % v1)
          have hdq : (top : Int) / (v1 : Int) = (g0 : Int) := by rw [← HG0.out]; simp
          have hdr : (top : Int) % (v1 : Int) = (r0 : Int) := by rw [← HR0.out]; simp
          have hg0 : g0 ≤ 18446744073709551615 := by rw [← HG0.out]; exact Nat.le_trans (Nat.div_le_self _ _) htop64
          have hr0 : r0 < 4294967296 := by rw [← HR0.out]; have := Nat.mod_lt top hv1; omega
          have HINV : Hid (g0 * v1 + r0 = top) := by show _ = _; rw [← HG0.out, ← HR0.out, Nat.mul_comm]; exact Nat.div_add_mod _ _
          have HQG : Hid (qq ≤ g0) := by show _ ≤ _; rw [← HG0.out]; exact HG.out.start (by omega) b2
          have hstep : ∀ g r : Nat, g * v1 + r = top → qq < g → (g - 1) * v1 + (r + v1) = top ∧ qq ≤ g - 1 := fun g r h1 h2 => by
            obtain ⟨k, rfl⟩ : ∃ k, g = k + 1 := ⟨g - 1, by omega⟩
            rw [Nat.add_mul, Nat.one_mul] at h1
            exact ⟨by simp; omega, by omega⟩
          have hbrk : ∀ g r : Nat, g * v1 + r = top → 4294967296 ≤ r → g < 4294967296 ∧ g ≤ qq + 1 := fun g r h1 h2 => by
            obtain ⟨h3, h4⟩ := gu_break (u3 := u3) h1 HTL.out h2 a2 a1
            exact ⟨h3, HG.out.end_ h1 h3 h4⟩
          have HSTEP := Lib.hid hstep
          have HBRK := Lib.hid hbrk
          clear hstep hbrk
          have hu1 := hu.drew
          have hv1r := hv.drew
          have hq1 := hq.drew
          have hch1 := hch.drew
          clear hu hv hq hch
          go_wp2_with fail
          go_cut [12] (fun tv wx => tv = .int .u64 top ∧ Row 120 .u32 wx gu (na + 1) L ∧ Row 120 .u32 wx gv (n + 1) V ∧ Row 120 .u32 wx gq m Q ∧ Chg [] w wx)
          case first =>
            go_region
            all_goals
              go_wp2_with fail
              go_meet
              exact ⟨rfl, hu1, hv1r, hq1, hch1⟩
          case rest =>
            clear hu1 hv1r hq1 hch1
            obtain ⟨rfl, hu1, hv1r, hq1, hch1⟩ := hcut
            clear hor hc0 hc1 hc2 hd1 hd2
            have hd1 := hv1r.cell (n - 1) (by rw [hVl]; have := HNK.out; omega)
            rw [HE2.out] at hd1
            go_upto_block 4 with fail
            go_cut [13] (fun gx wx => ∃ g : Nat, gx = .int .u64 g ∧ g < 4294967296 ∧ qq ≤ g ∧ g ≤ qq + 1 ∧ Row 120 .u32 wx gu (na + 1) L ∧ Row 120 .u32 wx gv (n + 1) V ∧ Row 120 .u32 wx gq m Q ∧ Chg [] w wx)
            case first =>
              as_aux_lemma =>
              go_wp2_with fail
              go_loopw [13, 14] (fun gx rx wx => ∃ g r : Nat, gx = .int .u64 g ∧ rx = .int .u64 r ∧ g ≤ 18446744073709551615 ∧ r < 4294967296 ∧ g * v1 + r = top ∧ qq ≤ g ∧ Row 120 .u32 wx gu (na + 1) L ∧ Row 120 .u32 wx gv (n + 1) V ∧ Row 120 .u32 wx gq m Q ∧ Chg [] w wx)
                (fun gx _ _ => (intOf gx).toNat)
              case atStart => exact ⟨g0, r0, rfl, congrArg _ hdr, hg0, hr0, HINV.out, HQG.out, hu1, hv1r, hq1, hch1⟩
              case round =>
                clear hu1 hv1r hq1 hch1 hdq hdr hg0 hr0 HINV HQG
                obtain ⟨g, r, rfl, rfl, hg, hr, hinv, hqg, hu, hv, hq, hch⟩ := hrel
                have HI := Lib.hid hinv
                have HQG := Lib.hid hqg
                clear hinv hqg
                have hc2 := hu.cell (j + n - 2) (by rw [HD.out.lenL]; omega)
                have hd1 := hv.cell (n - 1) (by rw [hVl]; have := HNK.out; omega)
                have hd2 := hv.cell (n - 2) (by rw [hVl]; have := HNK.out; omega)
                rw [HE1.out] at hc2
                rw [HE2.out] at hd1
                rw [HE3.out] at hd2
                by_cases hB : 4294967296 ≤ g
                · have HLESS := Lib.hid (HG.out.less HI.out (.inl hB))
                  obtain ⟨s1, s2⟩ := HSTEP.out g r HI.out HLESS.out
                  obtain ⟨p, rfl⟩ : ∃ p, g = p + 1 := ⟨g - 1, by omega⟩
                  rw [Nat.add_sub_cancel] at s1 s2
                  have S1 := Lib.hid s1
                  have S2 := Lib.hid s2
                  have hd : decide ((4294967296 : Int) ≤ ((p + 1 : Nat) : Int)) = true := by simp; omega
                  have hd2 : decide ((4294967296 : Int) ≤ (p : Int) + 1) = true := by simp; omega
                  clear hB
                  have hp : p ≤ 18446744073709551614 := by omega
                  have hu' := hu.drew
                  have hv' := hv.drew
                  have hq' := hq.drew
                  have hch' := hch.drew
                  clear s1 s2 hg hu hv hq hch
                  by_cases hbr : 4294967296 ≤ r + v1
                  · obtain ⟨z1, z2⟩ := HBRK.out p (r + v1) S1.out hbr
                    have hbi : (4294967296 : Int) ≤ (r : Int) + (v1 : Int) := by omega
                    clear hbr
                    go_wp2_with fail
                    go_region
                    all_goals
                      clear hd hd2
                      go_wp2_with fail
                      go_meet
                      exact ⟨p, by simp, z1, S2.out, z2, hu', hv', hq', hch'⟩
                  · have hbi : decide ((4294967296 : Int) ≤ (r : Int) + (v1 : Int)) = false := by simp; omega
                    have hbr2 : r + v1 < 4294967296 := by omega
                    clear hbr
                    go_wp2_with fail
                    go_region
                    all_goals
                      clear hd hd2
                      go_wp2_with fail
                      go_roundw
                      case rel => exact ⟨p, r + v1, by simp, by simp, by omega, hbr2, S1.out, S2.out, hu', hv', hq', hch'⟩
                      case measure => simp [intOf]
                · have hg2 : g < 4294967296 := by omega
                  have hor3 := or_two hr b2
                  obtain ⟨e, HE⟩ := name_it (r * 4294967296 + u3)
                  rw [HE.out] at hor3
                  have he64 : e ≤ 18446744073709551615 := by have := HE.out; omega
                  obtain ⟨pr, HPR⟩ := name_it (g * v2)
                  have hpr : pr ≤ 18446744065119617025 := by rw [← HPR.out]; exact mul_bound hg2 a2
                  have hpi : (g : Int) * (v2 : Int) = (pr : Int) := by rw [← HPR.out]; simp
                  have hd : decide ((4294967296 : Int) ≤ (g : Int)) = false := by simp; omega
                  clear hB
                  by_cases ht : e < pr
                  · have HLESS := Lib.hid (HG.out.less HI.out (.inr (by rw [HE.out, HPR.out]; exact ht)))
                    obtain ⟨s1, s2⟩ := HSTEP.out g r HI.out HLESS.out
                    have hdt : decide ((e : Int) < (pr : Int)) = true := by simp; omega
                    have hdt2 : (e : Int) < (pr : Int) := by omega
                    obtain ⟨p, HP⟩ : ∃ p, Hid (g = p + 1) := ⟨g - 1, by show _ = _; have := HLESS.out; omega⟩
                    rw [HP.out, Nat.add_sub_cancel] at s1 s2
                    have S1 := Lib.hid s1
                    have S2 := Lib.hid s2
                    have hgp : Hid ((g : Int) - 1 = (p : Int)) := by show _ = _; rw [HP.out]; omega
                    have hg1 : 1 ≤ g := by rw [HP.out]; omega
                    clear ht
                    have hu' := hu.drew
                    have hv' := hv.drew
                    have hq' := hq.drew
                    have hch' := hch.drew
                    clear s1 s2 hu hv hq hch
                    by_cases hbr : 4294967296 ≤ r + v1
                    · obtain ⟨z1, z2⟩ := HBRK.out p (r + v1) S1.out hbr
                      have hbi : (4294967296 : Int) ≤ (r : Int) + (v1 : Int) := by omega
                      clear hbr
                      go_wp2_with fail
                      go_region
                      all_goals
                        clear hor3 hd hpi
                        go_wp2_with fail
                        go_meet
                        exact ⟨p, by rw [hgp.out], z1, S2.out, z2, hu', hv', hq', hch'⟩
                    · have hbi : decide ((4294967296 : Int) ≤ (r : Int) + (v1 : Int)) = false := by simp; omega
                      have hbr2 : r + v1 < 4294967296 := by omega
                      clear hbr
                      go_wp2_with fail
                      go_region
                      all_goals
                        clear hor3 hd hpi
                        go_wp2_with fail
                        go_roundw
                        case rel => exact ⟨p, r + v1, by rw [hgp.out], by simp, by have := HP.out; omega, hbr2, S1.out, S2.out, hu', hv', hq', hch'⟩
                        case measure => simp [intOf]; have := HP.out; omega
                  · have hend := HG.out.end_ HI.out hg2 (by rw [HE.out, HPR.out]; omega)
                    have HEND := Lib.hid hend
                    have hdt : decide ((e : Int) < (pr : Int)) = false := by simp; omega
                    have hdt3 : decide (e < pr) = false := by simp; omega
                    have hle2 : pr ≤ e := by omega
                    have hu' := hu.drew
                    have hv' := hv.drew
                    have hq' := hq.drew
                    have hch' := hch.drew
                    clear ht hend hu hv hq hch
                    go_wp2_with fail
                    go_region
                    all_goals
                      clear hor3 hd hpi
                      go_wp2_with fail
                      go_meet
                      exact ⟨g, rfl, hg2, HQG.out, HEND.out, hu', hv', hq', hch'⟩
            case rest =>
              as_aux_lemma =>
              clear hu1 hv1r hq1 hch1
              obtain ⟨g, rfl, hg, hqg, hgq, hu, hv, hq, hch⟩ := hcut
              have HQG := Lib.hid hqg
              have HGQ2 := Lib.hid hgq
              clear hqg hgq hd1 hdq hdr
              have hjn : j + n < na + 1 := by omega
              go_wp2_with fail
              go_loopw [15, 16, 17] (fun cv bv iv wx => ∃ (i c b : Nat) (M : List Nat), i ≤ n ∧ iv = .int .i64 i ∧ cv = .int .u64 c ∧ bv = .int .u64 b ∧ b ≤ 1 ∧ SubM L V j g i (c + b) M ∧ Row 120 .u32 wx gu (na + 1) M ∧ Row 120 .u32 wx gv (n + 1) V ∧ Row 120 .u32 wx gq m Q ∧ Chg [] w wx)
                (fun _ _ iv _ => n - (intOf iv).toNat)
              case atStart => exact ⟨0, 0, 0, L, Nat.zero_le _, rfl, rfl, rfl, by omega, SubM.start j g HD.out.digL, hu, hv, hq, hch⟩
              case round =>
                clear hu hv hq hch
                obtain ⟨i, c, b, M, hin, rfl, rfl, rfl, hb1, hP, hu, hv, hq, hch⟩ := hrel
                have hlm : M.length = na + 1 := by rw [hP.len, HD.out.lenL]
                have HLM := Lib.hid hlm
                clear hlm
                have hcb := hP.carry
                by_cases hlt : i < n
                · as_aux_lemma =>
                  have hcv := hv.cell i (by rw [hVl, ← HNK.out]; exact hlt)
                  obtain ⟨v, HV⟩ := name_it (V.getD i 0)
                  rw [HV.out] at hcv
                  have hvb : v < 4294967296 := by rw [← HV.out]; exact dig_getD (by omega) HDV.out i
                  have hcu := hu.cell (j + i) (by rw [HLM.out]; omega)
                  have hfr := hu.frozen (j + i)
                  have hLU := hP.other (j + i) (by omega)
                  obtain ⟨x, HX⟩ := name_it (M.getD (j + i) 0)
                  rw [HX.out] at hcu hLU
                  have HLU := Lib.hid hLU.symm
                  clear hLU
                  have hx : x < 4294967296 := by rw [← HX.out]; exact dig_getD (by omega) hP.digs _
                  obtain ⟨p, HPP⟩ := name_it (v * g)
                  have hp : p ≤ 18446744065119617025 := by rw [← HPP.out]; exact mul_bound hvb hg
                  have hpe : (g : Int) * (v : Int) = (p : Int) := by rw [← HPP.out]; simp [Int.mul_comm]
                  obtain ⟨z, HZ⟩ := name_it ((c + p) % 4294967296)
                  have hz : z < 4294967296 := by rw [← HZ.out]; omega
                  have hm1 := and_mask (c + p) (by omega)
                  rw [HZ.out] at hm1
                  have hmask : bits BinOp.and IntKind.u64 ((c : Int) + (p : Int)) 4294967295 = (z : Int) := by rw [← hm1]; simp
                  clear hm1
                  by_cases hbo : x < z + b
                  · as_aux_lemma =>
                    have hst := hP.step hg HV.out HDV.out (by rw [HD.out.lenL]; omega) (x + 4294967296 - (z + b)) ((c + p) / 4294967296 + 1) (by omega) (by rw [HLU.out, HPP.out]; have := HZ.out; omega)
                    have HST := Lib.hid hst.2
                    clear hst hP
                    have hbi : (x : Int) < (z : Int) + (b : Int) := by omega
                    have e1 : Hid ((x : Int) + 4294967296 - ((z : Int) + (b : Int)) = ((x + 4294967296 - (z + b) : Nat) : Int)) := by show _ = _; omega
                    have e2 : Hid (((c : Int) + (p : Int)) / 4294967296 = (((c + p) / 4294967296 : Nat) : Int)) := by show _ = _; omega
                    clear hbo
                    go_wp2_with fail
                    go_roundw
                    case rel =>
                      rw [e1.out, e2.out]
                      exact ⟨i + 1, _, 1, _, by omega, by go_num, rfl, rfl, by omega, HST.out, hu.store _ _, hv.other HVU.out _, hq.other hqu.out _, hch.setCell (.inr HGU.out) _⟩
                    case measure => simp [intOf]; omega
                  · as_aux_lemma =>
                    have hst := hP.step hg HV.out HDV.out (by rw [HD.out.lenL]; omega) (x - (z + b)) ((c + p) / 4294967296 + 0) (by omega) (by rw [HLU.out, HPP.out]; have := HZ.out; omega)
                    have HST := Lib.hid hst.2
                    clear hst hP
                    have hbi : ¬ (x : Int) < (z : Int) + (b : Int) := by omega
                    have e1 : Hid ((x : Int) - ((z : Int) + (b : Int)) = ((x - (z + b) : Nat) : Int)) := by show _ = _; omega
                    have e2 : Hid (((c : Int) + (p : Int)) / 4294967296 = (((c + p) / 4294967296 : Nat) : Int)) := by show _ = _; omega
                    clear hbo
                    go_wp2_with fail
                    go_roundw
                    case rel =>
                      rw [e1.out, e2.out]
                      exact ⟨i + 1, _, 0, _, by omega, by go_num, rfl, rfl, by omega, HST.out, hu.store _ _, hv.other HVU.out _, hq.other hqu.out _, hch.setCell (.inr HGU.out) _⟩
                    case measure => simp [intOf]; omega
                · as_aux_lemma =>
                  have hi2 : n = i := by omega
                  subst hi2
                  have hcu := hu.cell (j + n) (by rw [HLM.out]; exact hjn)
                  have hfr := hu.frozen (j + n)
                  have hLU := hP.other (j + n) (by omega)
                  obtain ⟨x, HX⟩ := name_it (M.getD (j + n) 0)
                  rw [HX.out] at hcu hLU
                  have HLU := Lib.hid hLU.symm
                  clear hLU
                  have hx : x < 4294967296 := by rw [← HX.out]; exact dig_getD (by omega) hP.digs _
                  have HPP := Lib.hid hP
                  have hVn : Hid (V.length = n) := by show _ = _; rw [hVl, ← HNK.out]
                  have hVpos : Hid (0 < lv 4294967296 V) := by
                    show 0 < _
                    have := HD.out.small; omega
                  have hqe : Hid (qq = win 4294967296 L j (n + 1) / lv 4294967296 V) := by
                    show _ = _
                    rw [← HQQ.out, show n + 1 = k + 3 by have := HNK.out; omega]
                  have hfq := hq.frozen j
                  have hcq := hq.cell j (by rw [HD.out.lenQ]; omega)
                  obtain ⟨oq, HOQ⟩ := name_it (Q.getD j 0)
                  rw [HOQ.out] at hcq
                  have hqu1 : gq ≠ gu := hqu.out
                  have hqb : Hid (qq < 4294967296) := HG.out.qB
                  clear hP
                  by_cases hbl : x < c + b
                  · as_aux_lemma =>
                    obtain ⟨l1, l2, l3, l4⟩ := HPP.out.last hVn.out (by rw [HD.out.lenL]; exact hjn) (x + 4294967296 - (c + b)) 1 (by omega) (by rw [HLU.out]; omega)
                    have hwl := win_lt 4294967296 _ j (by omega) l2 (n + 1)
                    obtain ⟨M1, HM1⟩ := name_it (M.set (j + n) (x + 4294967296 - (c + b)))
                    rw [HM1.out] at l1 l2 l3 l4 hwl
                    rw [Nat.mul_one] at l4
                    obtain ⟨g1, g2⟩ := digit_over HQG.out HGQ2.out hwl l4 hqe.out
                    have L1 := Lib.hid l1
                    have L2 := Lib.hid l2
                    have L3 := Lib.hid l3
                    have G2 := Lib.hid g2
                    have hg1 : 1 ≤ g := by omega
                    have G1 : Hid ((g : Int) - 1 = (qq : Int)) := by show _ = _; omega
                    have hbi : decide ((x : Int) < (c : Int) + (b : Int)) = true := by simp; omega
                    have hbi2 : (x : Int) < (c : Int) + (b : Int) := by omega
                    have hst := hu.store (j + n) (x + 4294967296 - (c + b))
                    rw [HM1.out] at hst
                    clear l1 l2 l3 l4 hwl g1 g2 hbl
                    have eW : Hid (IntKind.u64.wrap ((x : Int) - ((c : Int) + (b : Int))) % 4294967296 = ((x + 4294967296 - (c + b) : Nat) : Int)) := by show _ = _; rw [IntKind.wrap_u64]; omega
                    have hv2 := hv.other HVU.out (p := ⟨gu, j + n, none⟩) (.int .u32 ((x + 4294967296 - (c + b) : Nat) : Int))
                    have hq2 := hq.other hqu.out (p := ⟨gu, j + n, none⟩) (.int .u32 ((x + 4294967296 - (c + b) : Nat) : Int))
                    have hch2 := hch.setCell (p := ⟨gu, j + n, none⟩) (.inr HGU.out) (.int .u32 ((x + 4294967296 - (c + b) : Nat) : Int))
                    clear hu hv hq hch hfq hcq
                    go_wp2_with fail
                    rw [eW.out]
                    clear hcu hfr
                    obtain ⟨wb, HWB⟩ := name_it (wr.setCell ⟨gu, j + n, none⟩ (.int .u32 ((x + 4294967296 - (c + b) : Nat) : Int)))
                    rw [HWB.out] at hst hv2 hq2 hch2 ⊢
                    go_loopw [15, 23] (fun cv iv wx => ∃ (i c : Nat) (M : List Nat), i ≤ n ∧ iv = .int .i64 i ∧ cv = .int .u64 c ∧ AddM M1 V j i c M ∧ Row 120 .u32 wx gu (na + 1) M ∧ Row 120 .u32 wx gv (n + 1) V ∧ Row 120 .u32 wx gq m Q ∧ Chg [] w wx)
                      (fun _ iv _ => n - (intOf iv).toNat)
                    case atStart => exact ⟨0, 0, M1, Nat.zero_le _, rfl, rfl, AddM.start j L2.out, hst, hv2, hq2, hch2⟩
                    case round =>
                      clear hst hv2 hq2 hch2
                      obtain ⟨i, c2, M2, hin2, rfl, rfl, hP2, hu, hv, hq, hch⟩ := hrel
                      have hlm2 : M2.length = na + 1 := by rw [hP2.len, L1.out, HD.out.lenL]
                      have HLM2 := Lib.hid hlm2
                      clear hlm2
                      have hc2 := hP2.carry
                      by_cases hlt2 : i < n
                      · as_aux_lemma =>
                        have hcv := hv.cell i (by rw [hVn.out]; exact hlt2)
                        obtain ⟨v, HV⟩ := name_it (V.getD i 0)
                        rw [HV.out] at hcv
                        have hvb : v < 4294967296 := by rw [← HV.out]; exact dig_getD (by omega) HDV.out i
                        have hcu := hu.cell (j + i) (by rw [HLM2.out]; omega)
                        have hfr := hu.frozen (j + i)
                        have hst2 := hP2.step HV.out HDV.out (by rw [L1.out, HD.out.lenL]; omega)
                        have hLU := hP2.other (j + i) (by omega)
                        obtain ⟨y, HY⟩ := name_it (M2.getD (j + i) 0)
                        rw [HY.out] at hcu hLU
                        rw [← hLU, ← Nat.add_assoc] at hst2
                        have HST := Lib.hid hst2
                        clear hLU hst2
                        have hy : y < 4294967296 := by rw [← HY.out]; exact dig_getD (by omega) hP2.digs _
                        have e1 : Hid (((c2 : Int) + (y : Int) + (v : Int)) % 4294967296 = (((c2 + y + v) % 4294967296 : Nat) : Int)) := by show _ = _; omega
                        have e2 : Hid (((c2 : Int) + (y : Int) + (v : Int)) / 4294967296 = (((c2 + y + v) / 4294967296 : Nat) : Int)) := by show _ = _; omega
                        clear hP2
                        go_wp2_with fail
                        go_region
                        all_goals
                          go_wp2_with fail
                          go_roundw
                          case rel =>
                            rw [e1.out, e2.out]
                            exact ⟨i + 1, _, _, by omega, by go_num, rfl, HST.out, hu.drew.store _ _, hv.drew.other HVU.out _, hq.drew.other hqu.out _, hch.drew.setCell (.inr HGU.out) _⟩
                          case measure => simp [intOf]; omega
                      · as_aux_lemma =>
                        have hi3 : n = i := by omega
                        subst hi3
                        have hcu := hu.cell (j + n) (by rw [HLM2.out]; exact hjn)
                        have hfr := hu.frozen (j + n)
                        have hLU := hP2.other (j + n) (by omega)
                        obtain ⟨y, HY⟩ := name_it (M2.getD (j + n) 0)
                        rw [HY.out] at hcu hLU
                        have hy : y < 4294967296 := by rw [← HY.out]; exact dig_getD (by omega) hP2.digs _
                        obtain ⟨l1, l2, l3, l4⟩ := hP2.last hVn.out (by rw [L1.out, HD.out.lenL]; exact hjn) ((c2 + y) % 4294967296) ((c2 + y) / 4294967296) (by omega) (by rw [← hLU]; omega)
                        have hvlt : lv 4294967296 V ≤ 4294967296 ^ (n + 1) := by
                          have a1 := lv_lt (B := 4294967296) (by omega) V HDV.out
                          rw [hVn.out] at a1
                          have a2 : 4294967296 ^ n ≤ 4294967296 ^ (n + 1) := Nat.pow_le_pow_right (by omega) (by omega)
                          omega
                        have g3 := digit_back hvlt hVpos.out (win_lt 4294967296 _ j (by omega) l2 (n + 1)) G2.out l4
                        have hF := Lib.hid (HD.out.step (by omega) HDV.out hVn.out (by omega) hqb.out hqe.out (by rw [l1, L1.out]) l2 (fun a ha => (l3 a ha).trans (L3.out a ha)) g3)
                        have hfq := hq.frozen j
                        have hcq := hq.cell j (by rw [HD.out.lenQ]; omega)
                        rw [HOQ.out] at hcq
                        have e1 : Hid (((y : Int) + (c2 : Int)) % 4294967296 = (((c2 + y) % 4294967296 : Nat) : Int)) := by show _ = _; omega
                        clear l1 l2 l3 l4 g3 hLU hP2 hvlt
                        go_wp2_with fail
                        go_roundw
                        case rel =>
                          rw [e1.out, G1.out]
                          exact ⟨j, _, _, by omega, by go_num, hF.out, (hu.store _ _).other hqu.out.symm _, (hv.other HVU.out _).other hqv.out.symm _, (hq.other hqu.out _).store _ _, (hch.setCell (.inr HGU.out) _).setCell (.inr hqw.out) _⟩
                        case measure => simp [intOf]
                  · as_aux_lemma =>
                    obtain ⟨l1, l2, l3, l4⟩ := HPP.out.last hVn.out (by rw [HD.out.lenL]; exact hjn) (x - (c + b)) 0 (by omega) (by rw [HLU.out]; omega)
                    rw [Nat.mul_zero, Nat.add_zero] at l4
                    obtain ⟨g1, g2⟩ := digit_fits HQG.out hVpos.out l4 hqe.out
                    have hF := Lib.hid (HD.out.step (by omega) HDV.out hVn.out (by omega) hqb.out hqe.out (by rw [l1]) l2 l3 g2)
                    have hbi : decide ((x : Int) < (c : Int) + (b : Int)) = false := by simp; omega
                    have hbi2 : ¬ (x : Int) < (c : Int) + (b : Int) := by omega
                    have e1 : Hid ((x : Int) - ((c : Int) + (b : Int)) = ((x - (c + b) : Nat) : Int)) := by show _ = _; omega
                    have G1 : Hid (g = qq) := g1
                    clear l1 l2 l3 l4 g1 g2 hbl
                    go_wp2_with fail
                    go_roundw
                    case rel =>
                      rw [e1.out]
                      refine ⟨j, _, _, by omega, by go_num, hF.out, (hu.store _ _).other hqu.out.symm _, (hv.other HVU.out _).other hqv.out.symm _, ?_, (hch.setCell (.inr HGU.out) _).setCell (.inr hqw.out) _⟩
                      rw [← G1.out]
                      exact (hq.other hqu.out _).store _ _
                    case measure => simp [intOf]
        · as_aux_lemma =>
          have ht1 : t' = 0 := by omega
          subst ht1
          have hm1 : (((0 : Nat) : Int) - 1) = -1 := rfl
          rw [hm1]
          obtain ⟨hdq, hdr⟩ := hD.done (by omega)
          rw [hVt.out, Nat.mul_div_mul_right _ _ (Nat.two_pow_pos s)] at hdq
          rw [hVt.out, Nat.mul_mod_mul_right] at hdr
          have hz := hD.zero n (by omega)
          have hw0 : win 4294967296 L 0 n = lv 4294967296 A % lv 4294967296 C * 2 ^ s := by
            rw [← hdr, ← win_all, hD.lenL]
            obtain ⟨r, hr⟩ : ∃ r, na + 1 = n + r := ⟨na + 1 - n, by omega⟩
            rw [hr, win_add, Nat.zero_add]
            have : win 4294967296 L n r = 0 := by
              rw [win_congr 4294967296 L [] n r (fun jj _ => by rw [hD.zero _ (by omega)]; simp), win_nil]
            rw [this]; simp
          have HDQ := Lib.hid hdq
          have HZ := Lib.hid hz
          have HW0 := Lib.hid hw0
          have HLL : Hid (L.length = na + 1) := hD.lenL
          have dL := hD.digL
          have dQ := hD.digQ
          have HLQ : Hid (Q.length = m) := by show _ = _; rw [hD.lenQ]; have := HM.out; omega
          have DL := Lib.hid dL
          have DQ := Lib.hid dQ
          clear hdq hdr hz hw0 dL dQ hD hm1 ht0
          obtain ⟨p, HP⟩ := name_it (2 ^ s)
          have hpc : Hid (p * 2 ^ (32 - s) = 4294967296) := by show _ = _; rw [← HP.out, ← Nat.pow_add, show s + (32 - s) = 32 by omega]
          have hpp : Hid (0 < p) := by show 0 < p; rw [← HP.out]; exact Nat.two_pow_pos s
          have hpi : ((2 : Int) ^ s) = (p : Int) := by rw [← HP.out]; simp
          rw [HP.out] at HW0
          obtain ⟨i1, hi, hz0, hz1, hz2⟩ := info_parts Tryz.info32
          go_wp2_with (at_make; refine wpList_make_cap _ rfl (.tmp 243) (.tmp 243) 118 rfl 120 i1 .u32 Tryz.underlying118 hi hz0 hz1 .i64 .i64 _ _ n n rfl rfl rfl rfl (Nat.le_refl _) (by rw [hz2]; omega) (by omega) ?_)
          intro w4 hR hch4
          have hu4 := hu.keep hch4 (by simp)
          have hq4 := hq.keep hch4 (by simp)
          have hch5 := hch.then hch4
          have hru : Hid (wr.heap.size ≠ gu) := by have := hu.lt; show _ ≠ _; omega
          have hrq : Hid (wr.heap.size ≠ gq) := by have := hq.lt; show _ ≠ _; omega
          have hrw : Hid (w.heap.size ≤ wr.heap.size) := hch.size
          obtain ⟨gr, HGR⟩ := name_it wr.heap.size
          rw [HGR.out] at hR hru hrq hrw ⊢
          clear hu hv hq hch hch4 hi hz0 hz1 hz2
          go_wp2_with fail
          go_loopw [25] (fun iv wx => ∃ (i : Nat) (R : List Nat), i ≤ n ∧ iv = .int .i64 i ∧ ShrI L p n i R ∧ Row 120 .u32 wx gr n R ∧ Row 120 .u32 wx gu (na + 1) L ∧ Row 120 .u32 wx gq m Q ∧ Chg [] w wx)
            (fun iv _ => n - (intOf iv).toNat)
          case atStart => exact ⟨0, _, Nat.zero_le _, rfl, ShrI.start L p n, hR, hu4, hq4, hch5⟩
          case round =>
            clear hR hu4 hq4 hch5
            obtain ⟨i, R, hile, rfl, hP, hr, hu, hq, hch⟩ := hrel
            by_cases hlt : i < n
            · as_aux_lemma =>
              have hc1 := hu.cell (i + 1) (by rw [HLL.out]; omega)
              have hc0 := hu.cell i (by rw [HLL.out]; omega)
              have hfr := hr.frozen i
              have hcr := hr.cell i (by rw [hP.len]; exact hlt)
              obtain ⟨or, HOR⟩ := name_it (R.getD i 0)
              rw [HOR.out] at hcr
              have ba := dig_getD (B := 4294967296) (by omega) DL.out i
              have bb := dig_getD (B := 4294967296) (by omega) DL.out (i + 1)
              have hst := hP.step hpc.out hpp.out hlt rfl rfl ba
              obtain ⟨a, HA⟩ := name_it (L.getD i 0)
              obtain ⟨b, HB⟩ := name_it (L.getD (i + 1) 0)
              rw [HA.out] at hc0 ba hst
              rw [HB.out] at hc1 bb hst
              have hor := or_two bb ba
              obtain ⟨T, HT2⟩ := name_it (b * 4294967296 + a)
              rw [HT2.out] at hor hst
              have hT : T ≤ 18446744073709551615 := by have := HT2.out; omega
              obtain ⟨D, HDD⟩ := name_it (T / p)
              have hdiv : (T : Int) / (p : Int) = (D : Int) := by rw [← HDD.out]; simp
              have hDb : D ≤ 18446744073709551615 := by rw [← HDD.out]; exact Nat.le_trans (Nat.div_le_self _ _) hT
              rw [HDD.out] at hst
              have HST := Lib.hid hst
              have e1 : Hid ((D : Int) % 4294967296 = ((D % 4294967296 : Nat) : Int)) := by show _ = _; omega
              clear hst hP
              go_wp2_with fail
              go_region
              all_goals
                go_wp2_with fail
                go_roundw
                case rel =>
                  rw [e1.out]
                  exact ⟨i + 1, _, by omega, by go_num, HST.out, hr.drew.store _ _, hu.drew.other hru.out.symm _, hq.drew.other hrq.out.symm _, hch.drew.setCell (.inr hrw.out) _⟩
                case measure => simp [intOf]; omega
            · as_aux_lemma =>
              have hin : n = i := by omega
              subst hin
              have hv := hP.done hpp.out HZ.out HW0.out
              have HV := Lib.hid hv
              have HLR : Hid (R.length = n) := hP.len
              have dR := hP.digs
              have DR := Lib.hid dR
              clear hv dR hP
              go_wp2_with fail
              rw [← HLQ.out] at hq ⊢
              refine (strip_row gq Q.length Q _ hq).mono ?_
              rintro e w5 ⟨rfl, rfl⟩
              go_wp2_with fail
              rw [← HLR.out] at hr ⊢
              refine (strip_row gr R.length R _ hr).mono ?_
              rintro e w5 ⟨rfl, rfl⟩
              have hqt : Row _ _ _ _ _ (trim Q) := hq.take (tl Q) (tl_le Q)
              have hrt : Row _ _ _ _ _ (trim R) := hr.take (tl R) (tl_le R)
              have hl1 := tl_le Q
              have hl2 := tl_le R
              go_wp2_with fail
              go_ret2
              refine ⟨gq, Q.length, gr, R.length, trim Q, trim R, ret_eq (by rw [trim_length, trim_length]; rfl), hqt, hrt, hqw.out, hrw.out, trim_dig DQ.out, trim_dig DR.out, trim_noz Q, trim_noz R, by rw [lv_trim]; exact HDQ.out, by rw [lv_trim]; exact HV.out, ?_, ?_, hch⟩
              · rw [trim_length]; have := HLQ.out; have := HM.out; omega
              · rw [trim_length]; have := HLR.out; omega

end Go.Proofs.YtogciehmdlfkfaaGreatDoor
