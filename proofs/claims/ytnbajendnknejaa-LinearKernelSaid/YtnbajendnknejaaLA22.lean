/-
  The reference's has, One, NullSpace, Kernel; law 3: LinearKernel.
-/
import Derived.Test.YtnbajendnknejaaLA21
namespace Go.Proofs.Ytnbajendnknejaa
open Go.RowKit Nd

set_option maxRecDepth 20000 in
set_option maxHeartbeats 1000000 in
theorem rhas_any (L : List Nat) (n c : Nat) (A : Option Addr) (cap : Nat) (w : World) (hl : L.length = n) (hn : n ≤ 1000000) (hx : RdI w A L) :
    Calls Try.prog 111 #[.slice A n cap, .int .i64 c] w fun e w' => e = .returned (.bool (decide (c ∈ L))) ∧ Chg [] w w' := by
  have hch : Chg [] w w := Chg.refl _ _
  have HL := Lib.hid hl
  have HPV := Lib.hid (mem_pv (pv := L) (c := c))
  obtain ⟨b, HB⟩ := name_it (decide (c ∈ L))
  rw [HB.out]
  have HB2 : Hid ((c ∈ L → b = true) ∧ (c ∉ L → b = false)) := Lib.hid (by rw [← HB.out]; exact ⟨fun h => by simp [h], fun h => by simp [h]⟩)
  clear hl HB
  go_enter Try.func111, Try.ntmps111
  go_wp2_with fail
  go_loopw [5] (fun iv wr => ∃ k : Nat, k ≤ n ∧ iv = .int .i64 k ∧ (∀ t, t < k → L.getD t 0 ≠ c) ∧ RdI wr A L ∧ Chg [] w wr) (fun iv _ => n - (intOf iv).toNat)
  case atStart => exact ⟨0, Nat.zero_le _, rfl, fun t h => absurd h (by omega), hx, hch⟩
  case round =>
    clear hx hch
    obtain ⟨k, hk, rfl, hall, hx, hch⟩ := hrel
    have HALL := Lib.hid hall
    clear hall
    by_cases hlt : k < n
    · obtain ⟨g, rfl, _, a0⟩ := hx (by rw [HL.out]; omega)
      have a1 := a0 k (by rw [HL.out]; exact hlt)
      obtain ⟨s, HS⟩ := name_it (L.getD k 0)
      rw [HS.out] at a1
      have i1 : (0 : Int) ≤ (k : Int) := by omega
      have i2 : (k : Int) < (n : Int) := by omega
      clear a0
      by_cases he : s = c
      · have hb := HB2.out.1 (HPV.out.2 ⟨k, by rw [HL.out]; exact hlt, by rw [HS.out]; exact he⟩)
        subst hb
        have e1 : ((s : Int) == (c : Int)) = true := by simp; omega
        clear he
        go_wp2_with fail
        go_ret
        exact ⟨rfl, hch⟩
      · have e1 : ((s : Int) == (c : Int)) = false := by simp; omega
        have HNE := Lib.hid (all_succ (P := fun t => L.getD t 0 ≠ c) HALL.out (by rw [HS.out]; exact he))
        clear he
        go_wp2_with fail
        go_roundw
        case rel => exact ⟨k + 1, by omega, by go_num, HNE.out, hx, hch⟩
        case measure => simp [intOf]; omega
    · have hb := HB2.out.2 (fun h => by
        obtain ⟨t, ht, he⟩ := HPV.out.1 h
        exact HALL.out t (by rw [HL.out] at ht; omega) he)
      subst hb
      go_wp2_with fail
      go_ret
      exact ⟨rfl, hch⟩

theorem one_val1 : Val ⟨false, ⟨#[1]⟩, ⟨#[]⟩⟩ 1 1 := ⟨⟨rfl, Is_one.2 rfl, Is_zero.2 rfl⟩, ⟨by decide, by decide⟩⟩
set_option maxRecDepth 20000 in
theorem rOne_any (w : World) : Calls Try.prog 74 #[] w fun e w' => e = .returned (.agg #[.bool false, .string ⟨#[1]⟩, .string ⟨#[]⟩]) ∧ Chg [] w w' := by
  go_enter Try.func74, Try.ntmps74
  go_wp2_with fail
  exact bodyPost_ret (v := .agg #[.bool false, .string ⟨#[1]⟩, .string ⟨#[]⟩]) (by simp [results, Try.results74, go_sem]) rfl ⟨rfl, (Chg.refl _ _).alloc _⟩

theorem MutV.regs {w : World} {gs hs : List Nat} {v : Value} {M : List (List Q3)} (h : MutV w gs v M) (hh : ∀ x, x ∈ hs → x ∈ gs ∨ w.heap.size ≤ x) : MutV w hs v M := by
  rcases h.form with ⟨rfl, rfl⟩ | ⟨g, cap, rfl, hM⟩
  · exact MutV.nil _ _
  · exact (hM.regs hh).toV
theorem MutV.keepg {w w' : World} {gs hs : List Nat} {v : Value} {M : List (List Q3)} (h : MutV w gs v M) (hc : Chg hs w w') (ho : ∀ x, x ∈ v.ownBlock.toList → x ∉ hs) (hh : ∀ x, x ∈ hs → x ∈ gs) : MutV w' gs v M := by
  rcases h.form with ⟨rfl, rfl⟩ | ⟨g, cap, rfl, hM⟩
  · exact MutV.nil _ _
  · exact (hM.keepg hc (ho g (by simp [Value.ownBlock])) hh).toV
theorem KRows.can {KM : List (List Q3)} {F : Nat → Nat → Rat} {pv : List Nat} {m c K : Nat} (h : KRows KM F pv m c K) : KM = canM (fun i => kvF F pv ((kcols pv c).getD i 0) pv.length) (kcols pv c).length m :=
  ext_getM (by rw [h.len, canM_length]) fun j hj => by
    rw [canM_length] at hj
    rw [canM_get _ m hj]
    exact (h.row j (by rw [h.len]; exact hj)).can

set_option maxRecDepth 20000 in
set_option maxHeartbeats 8000000 in
theorem rNullSpace_any (M : List (List Q3)) (F : Nat → Nat → Rat) (n m k : Nat) (A : Option Addr) (cap : Nat) (w : World) (hv : Vals M F n m k) (hn0 : 0 < n) (hm0 : 0 < m) (hn : n ≤ 1000) (hm : m ≤ 1000) (hk : 1 ≤ k) (hb : KR k m ≤ 4294967296) (hx : Mtx w A M) :
    Calls Try.prog 72 #[.slice A n cap] w fun e w' => ∃ (v : Value) (KM : List (List Q3)), e = .returned v ∧ MutV w' [] v KM ∧ KRows KM (ech F n m).1 (ech F n m).2 m m (KR k m + 8) ∧ Chg [] w w' := by
  have HX := Lib.hid hx
  have HV0 := Lib.hid hv
  have HB := Lib.hid hb
  have hL := hv.len
  have hch : Chg [] w w := Chg.refl _ _
  obtain ⟨ga, oa, rfl, hga⟩ := hx.form (by omega)
  have HEC := Lib.hid (ech_holds F n m)
  have hECH := Lib.hid (fun (w : World) (hx : Mtx w (some ⟨ga, oa, none⟩) M) => rechelon_any M F n m k (some ⟨ga, oa, none⟩) cap w hv hn0 hm0 hn hm hk hb hx)
  obtain ⟨f, Hf⟩ := name_it (ech F n m).1
  obtain ⟨pv, Hpv⟩ := name_it (ech F n m).2
  rw [Hf.out, Hpv.out] at HEC hECH
  rw [Hf.out, Hpv.out]
  have hple := HEC.out.len
  obtain ⟨r0, HR0⟩ := name_it pv.length
  rw [HR0.out] at hple
  obtain ⟨K, HK⟩ := name_it (KR k m)
  rw [HK.out] at HB hECH
  rw [HK.out]
  clear hx hv hb
  go_enter Try.func72, Try.ntmps72
  go_wp2_with fail
  refine (hECH.out _ HX.out).mono ?_
  rintro e w1 ⟨v2, g, cp, Mf, h, c, rfl, hD, hO, hV, hch⟩
  obtain ⟨Ap, cpp, rfl, hP⟩ := hO.rdi
  have HV := Lib.hid hV
  have HM := Lib.hid (hD.mtx hV.len hV.row)
  have HP := Lib.hid hP
  have HRL := Lib.hid hV.len
  rw [HR0.out]
  clear hD hO hV hP
  go_wp2_with fail
  go_loopw [5, 6] (fun bv iv wr => ∃ (cc : Nat) (KM : List (List Q3)), cc ≤ m ∧ iv = .int .i64 cc ∧ MutV wr [] bv KM ∧ KRows KM f pv m cc (K + 8) ∧ (∀ x, x ∈ bv.ownBlock.toList → w1.heap.size ≤ x) ∧ Chg [] w1 wr) (fun _ iv _ => m - (intOf iv).toNat)
  case atStart => exact ⟨0, [], Nat.zero_le _, rfl, MutV.nil _ _, KRows.start _ _ _ _, by simp [Value.ownBlock], Chg.refl _ _⟩
  case round =>
    obtain ⟨cc, KM, hcc, rfl, hbv, hkr, hbk, hch1⟩ := hrel
    have HKR := Lib.hid hkr
    have HBK := Lib.hid hbk
    have HBV := Lib.hid hbv
    clear hkr hbk hbv
    obtain ⟨B0, cr0, hc0, _, _, _⟩ := ((HX.out.keep0 hch).keep0 hch1).row (i := 0) (by omega)
    rw [Nat.add_zero, HV0.out.row 0 hn0] at hc0
    have n1 : (0 : Int) < (n : Int) := by omega
    by_cases hlt : cc < m
    · have hc0c := hc0.c
      go_wp2_with fail
      refine (rhas_any pv r0 cc Ap cpp _ HR0.out (by omega) (HP.out.keep0 hch1)).mono ?_
      rintro e w2 ⟨rfl, c1⟩
      clear hc0c
      replace hc0 := hc0.keep0 c1
      have HBV2 := Lib.hid (HBV.out.keep0 c1)
      replace hch1 := hch1.then c1
      clear c1
      by_cases hin : cc ∈ pv
      · rw [decide_eq_true hin]
        have SK := Lib.hid (HKR.out.skip hin)
        clear hin
        go_wp2_with fail
        go_roundw
        case rel => exact ⟨cc + 1, KM, by omega, by go_num, HBV2.out, SK.out, HBK.out, hch1⟩
        case measure => simp [intOf]; omega
      · rw [decide_eq_false hin]
        have HIN := Lib.hid hin
        clear hin
        have hc0c := hc0.c
        go_wp2_with (at_make; refine wpList_make3 _ rfl (.tmp 28) (.tmp 28) rfl _ _ m rfl rfl rfl rfl (by omega) ?_)
        intro w3 hz c1
        obtain ⟨gx, HGX⟩ := name_it w2.heap.size
        rw [HGX.out] at hz
        try rw [HGX.out]
        have hgx : w1.heap.size ≤ gx := by rw [← HGX.out]; exact hch1.size
        have hbl2 := HBV2.out.blt
        rw [HGX.out] at hbl2
        have HBL2 := Lib.hid hbl2
        have HBV3 := Lib.hid ((HBV2.out.regs (hs := [gx]) (fun x hx => .inr (by simp at hx; rw [hx, ← HGX.out]; exact Nat.le_refl _))).keep0 c1)
        replace hch1 := hch1.then c1
        have ZR := Lib.hid (zeros_row m (k := K + 8) (by omega))
        obtain ⟨z0, HZ0⟩ := name_it (List.replicate m q0)
        rw [HZ0.out] at hz ZR
        have hz0l := ZR.out.len
        clear c1 hc0c hc0 hbl2
        go_wp2_with fail
        refine (rOne_any _).mono ?_
        rintro e w4 ⟨rfl, c1⟩
        replace hz := hz.keep c1 (by simp)
        have HBV4 := Lib.hid (HBV3.out.keep0 c1)
        replace hch1 := hch1.then c1
        clear c1
        obtain ⟨s0, s1, s2⟩ := hz.rds.zero_at (j := cc) (by omega)
        have s3 := hz.frozen (cc * 3)
        have s4 := hz.frozen (cc * 3 + 1)
        have s5 := hz.frozen (cc * 3 + 2)
        have i3 : (0 : Int) ≤ (cc : Int) := by omega
        have i4 : (cc : Int) < (m : Int) := by omega
        go_wp2_with fail
        have R0 : Row1 (z0.set cc ⟨false, ⟨#[1]⟩, ⟨#[]⟩⟩) (kvF f pv cc 0) m (K + 8) := ZR.out.set hlt (one_val1.mono (by omega))
        have HR0' := Lib.hid R0
        have hz2 := hz.store (i := cc) (by omega) ⟨false, ⟨#[1]⟩, ⟨#[]⟩⟩
        have hch2 := hch1.store3o (g := gx) (i := cc * 3) (j := cc * 3 + 1) (k := cc * 3 + 2) (.inr hgx) (.bool false) (.string ⟨#[1]⟩) (.string ⟨#[]⟩)
        have c9 : Chg [gx] w4 (((w4.setCell ⟨gx, cc * 3, none⟩ (.bool false)).setCell ⟨gx, cc * 3 + 1, none⟩ (.string ⟨#[1]⟩)).setCell ⟨gx, cc * 3 + 2, none⟩ (.string ⟨#[]⟩)) := (Chg.refl [gx] w4).store3o (.inl (by simp)) _ _ _
        have hbv5 : MutV (((w4.setCell ⟨gx, cc * 3, none⟩ (.bool false)).setCell ⟨gx, cc * 3 + 1, none⟩ (.string ⟨#[1]⟩)).setCell ⟨gx, cc * 3 + 2, none⟩ (.string ⟨#[]⟩)) [gx] u5 KM := HBV4.out.keepg c9 (fun x hx => by simp; have := HBL2.out x hx; omega) (fun x hx => hx)
        clear s0 s1 s2 s3 s4 s5 hz hch1 R0 c9
        go_loopw [8] (fun jv wx => ∃ (i : Nat) (zs : List Q3), i ≤ r0 ∧ jv = .int .i64 i ∧ Row1 zs (kvF f pv cc i) m (K + 8) ∧ Nums wx gx m zs ∧ MutV wx [gx] u5 KM ∧ Chg [] w1 wx) (fun jv _ => r0 - (intOf jv).toNat)
        case atStart => exact ⟨0, _, Nat.zero_le _, rfl, HR0'.out, hz2, hbv5, hch2⟩
        case round =>
          clear hz2 hbv5 hch2
          obtain ⟨i, zs, hi, rfl, hR, hz, hbv, hch1⟩ := hrel
          have RR := Lib.hid hR
          have hzl := hR.len
          have HBV5 := Lib.hid hbv
          clear hR hbv
          by_cases hlr : i < r0
          · have hpl : i < pv.length := by rw [HR0.out]; exact hlr
            have hpm := HEC.out.lt i hpl
            obtain ⟨gP, rfl, hgP, hcP⟩ := HP.out (by omega)
            have hce := hcP i hpl
            have hpc := (show Cel w1 gP i (.int .i64 ((pv.getD i 0 : Nat) : Int)) from ⟨hgP, hce⟩).keep0 hch1
            obtain ⟨pc, HPC⟩ := name_it (pv.getD i 0)
            rw [HPC.out] at hpc hpm
            obtain ⟨Br, cr, hmr, _, _, hB⟩ := HM.out.row (i := i) (by rw [HRL.out]; omega)
            have hgl := hmr.lt
            replace hmr := hmr.keep0 hch1
            rw [Nat.zero_add] at hmr
            have R1 := Lib.hid (HV.out.at_ (i := i) (by omega))
            obtain ⟨y, HY⟩ := name_it (Mf.getD i [])
            rw [HY.out] at hmr hB R1
            have hyl := R1.out.len
            rw [hyl] at hmr
            obtain ⟨g2, o2, rfl, hg2⟩ := hB.form (by omega)
            have e1 := (hB.keep0 hch1).el (j := cc) (by omega)
            have vx := R1.out.val cc hlt
            have d1 : gP ≠ gx := by omega
            have d2 : g ≠ gx := by omega
            have d3 : g2 ≠ gx := by omega
            obtain ⟨x, HX2⟩ := name_it (y.getD cc q0)
            rw [HX2.out] at e1 vx
            obtain ⟨q, HQ⟩ := name_it (f i cc)
            rw [HQ.out] at vx
            have j1 : (0 : Int) ≤ (i : Int) := by omega
            have j2 : (i : Int) < (r0 : Int) := by omega
            have j3 : (i : Int) < (n : Int) := by omega
            have j4 : (0 : Int) ≤ (cc : Int) := by omega
            have j5 : (cc : Int) < (m : Int) := by omega
            have k1 : (0 : Int) ≤ (pc : Int) := by omega
            have k2 : (pc : Int) < (m : Int) := by omega
            clear hcP hce hgP hpl hB hgl hg2
            go_wp2_with fail
            have c8 : Chg [] wr wr.drew := (Chg.refl _ _).drew
            replace hz := hz.keep c8 (by simp)
            replace e1 := e1.keep0 c8
            replace hpc := hpc.keep0 c8
            replace hmr := hmr.keep0 c8
            replace hch1 := hch1.then c8
            clear c8
            have HBV6 := HBV5.out.keep0 ((Chg.refl [] wr).drew)
            go_region_held3 (fun w' => w'.cell? ⟨gP, i, none⟩ = some (.int .i64 pc) ∧ w'.cell? ⟨g, i, none⟩ = some (.slice (some ⟨g2, o2, none⟩) m cr) ∧ w'.cell? ⟨g2, o2 + cc * 3, none⟩ = some (.bool x.neg) ∧ w'.cell? ⟨g2, o2 + cc * 3 + 1, none⟩ = some (.string x.num) ∧ w'.cell? ⟨g2, o2 + cc * 3 + 2, none⟩ = some (.string x.den)) (first | exact ⟨hpc.c, hmr.c, e1.a, e1.b, e1.c⟩ | exact ⟨(hpc.st d1 _ _ _).c, (hmr.st d2 _ _ _).c, (e1.st d3 _ _ _).a, (e1.st d3 _ _ _).b, (e1.st d3 _ _ _).c⟩) (first
                | (go_at_call 75
                   (with_reducible refine (rOpposite_any x q K _ vx).mono ?_)
                   rintro e w5 ⟨z, rfl, hzv, c1⟩
                   replace hz := hz.keep c1 (by simp)
                   replace e1 := e1.keep0 c1
                   replace hpc := hpc.keep0 c1
                   replace hmr := hmr.keep0 c1
                   replace HBV6 := HBV6.keep0 c1
                   replace hch1 := hch1.then c1
                   clear c1
                   obtain ⟨s0, s1, s2⟩ := hz.rds.zero_at (j := pc) (by omega)
                   have s3 := hz.frozen (pc * 3)
                   have s4 := hz.frozen (pc * 3 + 1)
                   have s5 := hz.frozen (pc * 3 + 2)))
            all_goals
              have hR2 : Hid (Row1 (zs.set pc z) (kvF f pv cc (i + 1)) m (K + 8)) := by
                show Row1 _ _ _ _
                have := RR.out.set hpm (hzv.mono (show K ≤ K + 8 by omega))
                unfold kvF
                rw [HPC.out, HQ.out]
                exact this
              go_wp2_with fail
              go_roundw
              case rel => exact ⟨i + 1, zs.set pc z, by omega, by go_num, hR2.out, hz.store (by omega) z, HBV6.keepg ((Chg.refl [gx] _).store3o (.inl (by simp)) _ _ _) (fun x hx => by simp; have := HBL2.out x hx; omega) (fun x hx => hx), hch1.store3o (.inr hgx) _ _ _⟩
              case measure => simp [intOf]; omega
          · obtain rfl : r0 = i := by omega
            have hblt : gx < wr.heap.size := hz.lt
            have hzr := hz.rds.keep0 ((Chg.refl [] wr).alloc (.cells #[.slice (some ⟨gx, 0, none⟩) m m] 23))
            have hoff2 : Off (u5.ownBlock.toList ++ []) (some ⟨gx, 0, none⟩) := by
              intro a ha hm
              cases ha
              rw [List.append_nil] at hm
              have := HBL2.out _ hm
              simp only at this
              omega
            have hcl : (wr.alloc (.cells #[.slice (some ⟨gx, 0, none⟩) m m] 23)).cell? ⟨wr.heap.size, 0, none⟩ = some (.slice (some ⟨gx, 0, none⟩) m m) := by simp
            have hbv6 := (HBV5.out.regs (hs := []) (fun _ h => by cases h)).keep0 ((Chg.refl [] wr).alloc (.cells #[.slice (some ⟨gx, 0, none⟩) m m] 23))
            have hKl : KM.length ≤ 1000000 := by have h1 := HKR.out.len; have h2 := kcols_len pv cc; omega
            have hsz1 := hch1.size
            have RK := Lib.hid (HKR.out.snoc HIN.out (by rw [HR0.out]; exact RR.out))
            clear hz
            go_wp2_with (at_builtin; refine wpList_appendM _ rfl (.tmp 54) (.tmp 56) rfl [] _ KM rfl hbv6 ⟨wr.heap.size, 0, none⟩ 1 (some ⟨gx, 0, none⟩) m m zs rfl hcl hzl (Nat.le_refl _) (by omega) hzr (fun _ => hoff2) hKl ?_)
            intro v1 w5 hv1 cv1 hb1
            have HB1 : Hid (∀ x, x ∈ v1.ownBlock.toList → w1.heap.size ≤ x) := by
              show ∀ _, _
              intro y hy
              rcases hb1 with h | h
              · rw [h] at hy; exact HBK.out y hy
              · rw [h] at hy; simp at hy; omega
            have hch6 := Lib.hid ((hch1.alloc _).trans cv1 (fun y hy => .inr (HBK.out y hy)))
            clear hch1 cv1 hb1 hbv6 hzr hoff2 hcl
            go_wp2_with fail
            go_roundw
            case rel => exact ⟨cc + 1, KM ++ [zs], by omega, by go_num, hv1, RK.out, HB1.out, hch6.out⟩
            case measure => simp [intOf]; omega
    · obtain rfl : m = cc := by omega
      have hc0c := hc0.c
      go_wp2_with fail
      go_ret
      exact ⟨u5, KM, rfl, HBV.out, HKR.out, hch.then hch1⟩


set_option maxRecDepth 20000 in
set_option maxHeartbeats 1000000 in
theorem rKernel_bad (M : List (List Q3)) (A : Option Addr) (cap : Nat) (w : World) (hn : M.length ≤ 1000000) (hx : Mtx w A M) (hs : shapeE M ≠ 0) :
    Calls Try.prog 34 #[.slice A M.length cap] w fun e w' => e = .returned (.tuple #[.slice none 0 0, .int .i64 (shapeE M : Nat)]) ∧ Chg [] w w' := by
  obtain ⟨s, HS⟩ := name_it (shapeE M)
  rw [HS.out] at hs
  rw [HS.out]
  have hs1 : ((s : Int) != 0) = true := by simp; omega
  go_enter Try.func34, Try.ntmps34
  go_wp2_with fail
  refine (rshape_any M A cap _ hn hx).mono ?_
  rintro e w1 ⟨rfl, c1⟩
  rw [HS.out]
  go_wp2_with fail
  go_ret2
  exact ⟨rfl, c1⟩

set_option maxRecDepth 20000 in
set_option maxHeartbeats 2000000 in
theorem rKernel_ok (M : List (List Q3)) (A : Option Addr) (cap : Nat) (k : Nat) (w : World) (hx : Mtx w A M) (hs : shapeE M = 0) (hk : 1 ≤ k) (hb : KR k (M.getD 0 []).length ≤ 4294967296) (hk2 : k ≤ 3000) (hfit : ∀ i, i < M.length → ∀ j, j < (M.getD 0 []).length → fits ((M.getD i []).getD j q0) k) :
    Calls Try.prog 34 #[.slice A M.length cap] w fun e w' => ∃ v KM, e = .returned (.tuple #[v, .int .i64 0]) ∧ MutV w' [] v KM ∧ KRows KM (ech (matQ M) M.length (M.getD 0 []).length).1 (ech (matQ M) M.length (M.getD 0 []).length).2 (M.getD 0 []).length (M.getD 0 []).length (KR k (M.getD 0 []).length + 8) ∧ Chg [] w w' := by
  obtain ⟨s0, s1, s2, s3, s4⟩ := shapeE_ok hs
  obtain ⟨Q, HQ⟩ := name_it (matQ M)
  rw [HQ.out]
  obtain ⟨n, HN⟩ := name_it M.length
  obtain ⟨m, HM⟩ := name_it (M.getD 0 []).length
  rw [HN.out] at s0 s3 s2 hfit
  rw [HM.out] at s1 s4 s2 hfit hb
  have HROW := Lib.hid s2
  have HFIT := Lib.hid hfit
  have HSH := Lib.hid hs
  have HX := Lib.hid hx
  have HB := Lib.hid hb
  have hch : Chg [] w w := Chg.refl _ _
  rw [HN.out, HM.out]
  clear hx hs s2 hfit hb
  go_enter Try.func34, Try.ntmps34
  go_wp2_with fail
  rw [← HN.out]
  refine (rshape_any M _ cap _ (by rw [HN.out]; omega) HX.out).mono ?_
  rintro e w1 ⟨rfl, c1⟩
  rw [HSH.out, HN.out]
  replace hch := hch.then c1
  clear c1
  go_wp2_with fail
  refine (rfixedRows_any M _ n m cap k _ HN.out HROW.out (by omega) (by omega) (by omega) hk (by omega) HFIT.out (HX.out.keep0 hch)).mono ?_
  rintro e w2 ⟨v2, M2, rfl, hM2, hV2, _, c1⟩
  replace hch := hch.then c1
  obtain ⟨A2, cp2, rfl, _, _, hm2⟩ := hM2.mtx
  rw [hV2.len]
  rw [HQ.out] at hV2
  have HV2 := Lib.hid hV2
  have HM2 := Lib.hid hm2
  clear c1 hV2 hM2 hm2
  go_wp2_with fail
  refine (rNullSpace_any M2 Q n m k A2 cp2 _ HV2.out (by omega) (by omega) (by omega) (by omega) hk HB.out HM2.out).mono ?_
  rintro e w3 ⟨v3, KM, rfl, hMV, hKR, c1⟩
  have HKR := Lib.hid hKR
  replace hch := hch.then c1
  clear c1 hKR
  go_wp2_with fail
  go_ret2
  exact ⟨v3, KM, rfl, hMV, HKR.out, hch⟩


set_option maxRecDepth 20000 in
set_option maxHeartbeats 4000000 in
theorem lkernel_any (M : List (List Q3)) (A : Option Addr) (cap : Nat) (w : World) (hM : Mtx w A M) :
    Calls Try.prog 6 #[.slice A M.length cap] w fun e w' => e = .returned (.bool true) ∧ Chg [] w w' := by
  have hch : Chg [] w w := Chg.refl _ _
  cases hf : (decide (M.length ≤ 5) && fewM 5 M)
  · have HF := Lib.hid hf
    clear hf
    go_enter Try.func6, Try.ntmps6
    go_wp2_with fail
    refine (fewRows_any M A cap 5 _ (by omega) hM).mono ?_
    rintro e w1 ⟨rfl, c1⟩
    rw [HF.out]
    replace hch := hch.then c1
    clear c1
    go_wp2_with fail
    refine (awake3_any _).mono ?_
    rintro e w2 ⟨rfl, c1⟩
    replace hch := hch.then c1
    clear c1
    go_wp2_with fail
    go_ret
    exact ⟨rfl, hch⟩
  · have HF := Lib.hid hf
    have hf2 : M.length ≤ 5 ∧ fewM 5 M = true := by simpa using hf
    have hm5 := hf2.1
    have HFM := Lib.hid hf2.2
    clear hf hf2
    by_cases hs : shapeE M = 0
    · have hfit := fewM_fits HFM.out hs
      have hrow0 := (fewM_row HFM.out (i := 0) (by have := (shapeE_ok hs).1; omega)).1
      have hKR := KR_small (m := (M.getD 0 []).length) (by omega)
      have HKE := Lib.hid (fun (w : World) (hM : Mtx w A M) => Kernel_ok M A cap 24 w (by omega) hM hs (by omega) (by omega) hfit)
      have HRK := Lib.hid (fun (w : World) (hM : Mtx w A M) => rKernel_ok M A cap 24 w hM hs (by omega) hKR (by omega) hfit)
      have hkl := kcols_len (ech (matQ M) M.length (M.getD 0 []).length).2 (M.getD 0 []).length
      clear hs hKR hfit
      obtain ⟨f, Hf⟩ := name_it (ech (matQ M) M.length (M.getD 0 []).length).1
      obtain ⟨pv, Hpv⟩ := name_it (ech (matQ M) M.length (M.getD 0 []).length).2
      rw [Hf.out, Hpv.out] at HKE HRK
      rw [Hpv.out] at hkl
      obtain ⟨m, HM⟩ := name_it (M.getD 0 []).length
      rw [HM.out] at HKE HRK hrow0 hkl
      have HFR := Lib.hid (fun (w : World) (hM : Mtx w A M) => fewRows_any M A cap 5 w (by omega) hM)
      have HF2 := HF.out
      obtain ⟨n, HN⟩ := name_it M.length
      rw [HN.out] at HKE HRK hm5 HFR HF2
      have HF3 := Lib.hid HF2
      rw [HN.out]
      obtain ⟨d, HD⟩ := name_it (kcols pv m).length
      rw [HD.out] at hkl
      have CAN := Lib.hid (fun (KM : List (List Q3)) (K : Nat) (h : KRows KM f pv m m K) => (h.can : KM = canM (fun i => kvF f pv ((kcols pv m).getD i 0) pv.length) (kcols pv m).length m))
      rw [HD.out] at CAN
      obtain ⟨G, HG⟩ := name_it (fun i => kvF f pv ((kcols pv m).getD i 0) pv.length)
      rw [HG.out] at CAN
      clear HF2
      go_enter Try.func6, Try.ntmps6
      go_wp2_with fail
      refine (HFR.out _ hM).mono ?_
      rintro e w1 ⟨rfl, c1⟩
      rw [HF3.out]
      replace hM := hM.keep0 c1
      replace hch := hch.then c1
      clear c1
      go_wp2_with fail
      refine (HKE.out _ hM).mono ?_
      rintro e w2 ⟨v1, KM1, rfl, hM1, hK1, c1⟩
      obtain ⟨A1, d1, rfl, _, _, hx1⟩ := hM1.mtx
      rw [CAN.out _ _ hK1] at hx1 ⊢
      rw [canM_length]
      clear hM1 hK1
      replace hM := hM.keep0 c1
      replace hch := hch.then c1
      clear c1
      go_wp2_with fail
      refine (HRK.out _ hM).mono ?_
      rintro e w3 ⟨v2, KM2, rfl, hM2, hK2, c1⟩
      obtain ⟨A2, d2, rfl, _, _, hx2⟩ := hM2.mtx
      rw [CAN.out _ _ hK2] at hx2 ⊢
      rw [canM_length]
      clear hM2 hK2
      replace hx1 := hx1.keep0 c1
      replace hch := hch.then c1
      clear c1
      go_wp2_with fail
      refine (awake3_any _).mono ?_
      rintro e w4 ⟨rfl, c1⟩
      replace hx1 := hx1.keep0 c1
      replace hx2 := hx2.keep0 c1
      replace hch := hch.then c1
      clear c1
      go_wp2_with fail
      refine (sameRows_n (canM G d m) d m _ _ _ _ _ (canM_length G d m) (fun i hi => by rw [canM_get G m hi, canL_length]) (by omega) (by omega) hx1 hx2).mono ?_
      rintro e w5 ⟨rfl, c1⟩
      replace hch := hch.then c1
      clear c1
      go_wp2_with fail
      go_ret
      exact ⟨ret_eq (by simp), hch⟩
    · have HSN := Lib.hid hs
      have HFR := Lib.hid (fun (w : World) (hM : Mtx w A M) => fewRows_any M A cap 5 w (by omega) hM)
      have HKE := Lib.hid (fun (w : World) (hM : Mtx w A M) => Kernel_bad M A cap w (by omega) hM HSN.out)
      have HRK := Lib.hid (fun (w : World) (hM : Mtx w A M) => rKernel_bad M A cap w (by omega) hM HSN.out)
      obtain ⟨s, HS⟩ := name_it (shapeE M)
      rw [HS.out] at HKE HRK
      have HF2 := HF.out
      obtain ⟨n, HN⟩ := name_it M.length
      rw [HN.out] at HFR HKE HRK HF2
      have HF3 := Lib.hid HF2
      rw [HN.out]
      clear hs HF2
      go_enter Try.func6, Try.ntmps6
      go_wp2_with fail
      refine (HFR.out _ hM).mono ?_
      rintro e w1 ⟨rfl, c1⟩
      rw [HF3.out]
      replace hM := hM.keep0 c1
      replace hch := hch.then c1
      clear c1
      go_wp2_with fail
      refine (HKE.out _ hM).mono ?_
      rintro e w2 ⟨rfl, c1⟩
      replace hM := hM.keep0 c1
      replace hch := hch.then c1
      clear c1
      go_wp2_with fail
      refine (HRK.out _ hM).mono ?_
      rintro e w3 ⟨rfl, c1⟩
      replace hch := hch.then c1
      clear c1
      go_wp2_with fail
      refine (awake3_any _).mono ?_
      rintro e w4 ⟨rfl, c1⟩
      replace hch := hch.then c1
      clear c1
      go_wp2_with fail
      refine (sameRows_nil _ _ _ _ _).mono ?_
      rintro e w5 ⟨rfl, c1⟩
      replace hch := hch.then c1
      clear c1
      go_wp2_with fail
      go_ret
      exact ⟨ret_eq (by simp), hch⟩

end Go.Proofs.Ytnbajendnknejaa
