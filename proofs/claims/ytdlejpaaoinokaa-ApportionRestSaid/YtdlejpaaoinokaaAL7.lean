/-
  Of law 4: Rest.
-/
import Derived.Test.YtdlejpaaoinokaaAL6
import Derived.Test.YtdlejpaaoinokaaAL5
namespace Go.Proofs.Ytdlejpaaoinokaa
open Go.RowKit Nd

theorem q3_ext {x y : Q3} (h1 : x.neg = y.neg) (h2 : x.num.toList = y.num.toList) (h3 : x.den.toList = y.den.toList) : x = y := by
  obtain ⟨a, b, c⟩ := x
  obtain ⟨a', b', c'⟩ := y
  dsimp only at h1 h2 h3
  rw [Lib.toList_data, Lib.toList_data] at h2 h3
  rw [h1, ByteArray.ext (Array.toList_inj.1 h2), ByteArray.ext (Array.toList_inj.1 h3)]
/-- Behind a region: two boxes that hold numbers. -/
structure KE2 (w0 wx : World) (v1 v2 : Value) (q1 q2 : Rat) (k : Nat) : Prop where
  out : ∃ (g1 g2 : Nat) (z1 z2 : Q3), v1 = .pointer (some ⟨g1, 0, none⟩) ∧ v2 = .pointer (some ⟨g2, 0, none⟩) ∧ Val z1 q1 k ∧ Val z2 q2 k ∧ Blk3 wx g1 (.bool z1.neg) (.string z1.num) (.string z1.den) ∧ Blk3 wx g2 (.bool z2.neg) (.string z2.num) (.string z2.den)
  ch : Chg [] w0 wx
theorem E3.of {w : World} {g o : Nat} {xs : List Q3} (h : Rds w (some ⟨g, o, none⟩) xs) {j : Nat} (hj : j < xs.length) : E3 w g (o + j * 3) (xs.getD j q0) := by
  obtain ⟨a, b, c, d⟩ := h.at_ hj
  exact ⟨a, b, c, d⟩

set_option maxRecDepth 20000 in
set_option linter.unusedSimpArgs false in
set_option linter.unusedVariables false in
set_option maxHeartbeats 16000000 in
theorem larest_any (L : List Int) (l : Nat) (A : Option Addr) (cap : Nat) (w : World) (hl : L.length = l) (hl2 : l ≤ 9223372036854775807) (hL : ∀ x, x ∈ L → 0 ≤ x ∧ x ≤ 65535) (hx : RdW w A L) :
    Calls Try.prog 6 #[.slice A l cap] w fun e w' => e = .returned (.bool true) ∧ Chg [] w w' := by
  have hch : Chg [] w w := Chg.refl _ _
  go_enter Try.func6, Try.ntmps6
  go_wp2_with fail
  refine (amountsB_any L l A cap w hl hl2 hL hx).mono ?_
  rintro e w1 ⟨v, xs, rfl, hown, hw, hblk, c1⟩
  have HW := Lib.hid hw
  obtain ⟨n, HNN⟩ := name_it (min 12 l)
  rw [HNN.out] at HW
  have hn12 : n ≤ 12 := by have := HNN.out; omega
  have hsz1 : w.heap.size ≤ w1.heap.size := c1.size
  replace hch := hch.then c1
  obtain ⟨A2, cap2, rfl, hcl, hcl2, hrd⟩ := hown.rds
  have hxl := HW.out.len
  rw [hxl] at hcl
  have HOWN := Lib.hid (show Own3 w1 (.slice A2 n cap2) xs by rw [hxl] at hown; exact hown)
  have HBLK := Lib.hid (show ∀ x, x ∈ (Value.slice A2 n cap2).ownBlock.toList → w.heap.size ≤ x by rw [hxl] at hblk; exact hblk)
  rw [hxl]
  have SUM := Lib.hid (fun w h => Sum_list xs A2 cap2 8 n w hxl HW.out.ok (by omega) hcl hcl2 (by omega) h)
  obtain ⟨Q, HQ⟩ := name_it (sumQ xs)
  rw [HQ.out] at SUM
  clear c1 hw hx hL hl hl2 HNN hown hblk
  go_wp2_with fail
  refine (SUM.out _ hrd).mono ?_
  rintro e w2 ⟨z1, rfl, hz, c1⟩
  have HZ1 := Lib.hid hz
  replace hrd := hrd.keep0 c1
  replace hch := hch.then c1
  have HOWN2 := Lib.hid (HOWN.out.keep0 c1)
  clear hz c1 HOWN
  go_wp2_with fail
  refine (NegateN z1 Q (n * (8 + 2) + 1) _ HZ1.out.num (by omega)).mono ?_
  rintro e w3 ⟨z2, rfl, hz, c1⟩
  have HZ2 := Lib.hid hz
  replace hrd := hrd.keep0 c1
  replace hch := hch.then c1
  have HOWN3 := Lib.hid (HOWN2.out.keep0 c1)
  clear hz c1 HOWN2
  go_wp2_with fail
  refine (FloorN z2 (-Q) (n * (8 + 2) + 1) _ HZ2.out.num (by omega)).mono ?_
  rintro e w4 ⟨z3, rfl, hz, c1⟩
  have HZ3 := Lib.hid hz
  replace hrd := hrd.keep0 c1
  replace hch := hch.then c1
  have HOWN4 := Lib.hid (HOWN3.out.keep0 c1)
  clear hz c1 HOWN3
  go_wp2_with fail
  refine (NegateN z3 (flo (-Q)) (n * (8 + 2) + 1 + 1) _ HZ3.out.num (by omega)).mono ?_
  rintro e w5 ⟨zu, rfl, hz, c1⟩
  have HZU := Lib.hid hz
  have c2 : Chg [] w5 (w5.alloc (.cells #[.bool zu.neg, .string zu.num, .string zu.den] 38)) := (Chg.refl _ _).alloc _
  have b4 := Blk3.alloc w5 (.bool zu.neg) (.string zu.num) (.string zu.den) 38
  replace hrd := (hrd.keep0 c1).keep0 c2
  replace hch := (hch.then c1).then c2
  have HOWN5 := Lib.hid ((HOWN4.out.keep0 c1).keep0 c2)
  have HOFF : Hid (w5.heap.size ∉ (Value.slice A2 n cap2).ownBlock.toList) := Lib.hid fun h => by
    have := (World.ownsRow.lt (HOWN4.out.keep0 c1) _ (by simpa using h)).2
    omega
  clear hz c1 c2 HOWN4
  go_wp2_with fail
  obtain ⟨w6, HW6⟩ := name_it (w5.alloc (.cells #[.bool zu.neg, .string zu.num, .string zu.den] 38))
  obtain ⟨g4, HG4⟩ := name_it w5.heap.size
  rw [HW6.out] at b4 hrd hch HOWN5 ⊢
  rw [HG4.out] at b4 HOFF ⊢
  clear HW6 HG4
  have c8 : Chg [] w6 w6.drew := (Chg.refl _ _).drew
  replace b4 := b4.keep0 c8
  replace hrd := hrd.keep0 c8
  replace hch := hch.then c8
  have HOWN6 := Lib.hid (HOWN5.out.keep0 c8)
  clear c8 HOWN5
  go_region_held3 (fun w' => w'.cell? ⟨g4, 0, none⟩ = some (.bool zu.neg) ∧ w'.cell? ⟨g4, 1, none⟩ = some (.string zu.num) ∧ w'.cell? ⟨g4, 2, none⟩ = some (.string zu.den)) (first
    | exact ⟨b4.c0, b4.c1, b4.c2⟩
    | exact ⟨(b4.keep0 ((Chg.refl [] _).alloc _)).c0, (b4.keep0 ((Chg.refl [] _).alloc _)).c1, (b4.keep0 ((Chg.refl [] _).alloc _)).c2⟩) (first
    | (go_at_call 18
       (with_reducible refine (SUM.out _ hrd).mono ?_)
       rintro e w7 ⟨z7, rfl, hz7, c1⟩
       have HZ7 := Lib.hid hz7
       replace b4 := b4.keep0 c1
       replace hrd := hrd.keep0 c1
       replace hch := hch.then c1
       have HOWN7 := Lib.hid (HOWN6.out.keep0 c1)
       clear hz7 c1)
    | (go_at_call 19
       (with_reducible refine (SubtractN zu z7 (-flo (-Q)) Q (n * (8 + 2) + 1 + 1) (n * (8 + 2) + 1) _ HZU.out.num HZ7.out.num (by omega)).mono ?_)
       rintro e w8 ⟨zr, rfl, hzr, c1⟩
       have HZR := Lib.hid hzr
       replace b4 := b4.keep0 c1
       replace hch := hch.then c1
       have HOWN8 := Lib.hid (HOWN7.out.keep0 c1)
       clear hzr c1 hrd)
    | (refine step_append3 _ (by rfl) _ _ (by rfl) (.slice A2 n cap2) xs (by rfl) (HOWN8.out.keep0 ((Chg.refl [] _).alloc _)) _ 1 1 [zr] (by rfl) rfl (rds_one _ zr) (by rw [hxl]; omega) ?_
       intro v9 w9 own9 cv9 hv9
       have HOWN9 := Lib.hid own9
       have c6 : Chg (Value.slice A2 n cap2).ownBlock.toList w8 w9 := (((Chg.refl [] _).alloc _).mono (fun x hx => by cases hx)).trans cv9 (fun x hx => .inl hx)
       replace b4 := b4.keep c6 HOFF.out
       replace hch := hch.trans c6 (fun x hx => .inr (HBLK.out x hx))
       clear own9 cv9 hv9 c6)
    | fail)
  have hfr : fits zr 250 := HZR.out.num.fit.mono (by omega)
  have WTR := Lib.hid (HW.out.rest hn12 hfr (by rw [HZR.out.num.rat, HQ.out]))
  rw [HQ.out] at WTR
  obtain ⟨ys, HYS⟩ := name_it (xs ++ [zr])
  obtain ⟨m, HM⟩ := name_it (n + 1)
  rw [HYS.out, HM.out] at WTR
  rw [HYS.out] at HOWN9
  have hm : m ≤ 13 := by have := HM.out; omega
  have hm1 : 1 ≤ m := by have := HM.out; omega
  obtain ⟨A9, cap9, rfl, hc9, hc92, hrd⟩ := HOWN9.out.rds
  have hyl := WTR.out.len
  rw [hyl] at hc9 ⊢
  clear SUM HW HZ1 HZ2 HZ3 HZ7 HZR HYS HM HOWN6 HOWN7 HOWN8 HOWN9 HBLK HOFF hfr hn12 hcl hcl2 hxl
  go_wp2_with fail
  refine (largest_any ys m 250 A9 cap9 _ hyl (by omega) (by omega) (by omega) WTR.out.ok hrd).mono ?_
  intro e w10 hp
  obtain ⟨N, D, hcm, _, hg⟩ := hp.com WTR.out.chk
  obtain ⟨hok, hup⟩ := WTR.out.com N D hcm
  obtain ⟨h5, rfl, _, hf⟩ := hg hok
  have hD := hcm.pos
  have hst := rst_of hD hok
  obtain ⟨f, HF⟩ := name_it (resA N D m)
  rw [HF.out] at hst hf
  have hsf : apS N m / D = apS f m := by rw [← hst.sum, Nat.mul_div_cancel _ hD]
  rw [hsf] at hup
  have c10 := hp.ch
  replace b4 := b4.keep0 c10
  replace hrd := hrd.keep0 c10
  replace hch := hch.then c10
  have HCM := Lib.hid hcm
  have HST := Lib.hid hst
  have HUP := Lib.hid hup
  have HFX := Lib.hid hf
  have HRD := Lib.hid hrd
  clear hp hg hok hup hst HF hsf c10 hcm hf hrd
  go_wp2_with fail
  have c8 : Chg [] w10 w10.drew := (Chg.refl _ _).drew
  have hcz := c8
  replace b4 := b4.keep0 c8
  have HCH := Lib.hid hch
  clear c8 hch
  have hs63 := HST.out.max
  go_region_held3 (fun w' => w'.cell? ⟨g4, 0, none⟩ = some (.bool zu.neg) ∧ w'.cell? ⟨g4, 1, none⟩ = some (.string zu.num) ∧ w'.cell? ⟨g4, 2, none⟩ = some (.string zu.den)) (exact ⟨b4.c0, b4.c1, b4.c2⟩) (first
    | (go_at_call 20
       (with_reducible refine (lsum_any f h5 m m _ (by omega) HST.out.max (HFX.out.keep0 hcz)).mono ?_)
       rintro e w11 ⟨rfl, c1⟩
       replace b4 := b4.keep0 c1
       replace hcz := hcz.then c1
       clear c1)
    | (go_at_call 14
       (with_reducible refine (IntV ((apS f m : Nat) : Int) _ (by omega) (by omega)).mono ?_)
       rintro e w12 ⟨zi, rfl, hzi, c1⟩
       rw [← HUP.out] at hzi
       have e9 := hzi.unique HZU.out
       rw [e9]
       replace b4 := b4.keep0 c1
       replace hcz := hcz.then c1
       clear c1 hzi e9)
    | fail)
  have hch : Chg [] w w12 := HCH.out.then hcz
  have hf : Fb w12 h5 m (fun j => .int .i64 ((f j : Nat) : Int)) := HFX.out.keep0 hcz
  have hrd : Rds w12 A9 ys := HRD.out.keep0 hcz
  clear HCH HFX HRD hcz b4 HZU HUP
  go_wp2_with fail
  go_loopw [50] (fun iv wx => ∃ i : Nat, i ≤ m ∧ iv = .int .i64 i ∧ Chg [] w12 wx) (fun iv _ => m - (intOf iv).toNat)
  case atStart => exact ⟨0, Nat.zero_le _, rfl, Chg.refl _ _⟩
  case round =>
    obtain ⟨i, hi, rfl, hc1⟩ := hrel
    by_cases hlt : i < m
    · have d0 : decide ((i : Int) < (m : Int)) = true := decide_eq_true (by omega)
      go_wp2_with fail
      go_loopw [55] (fun iv wx => ∃ k : Nat, k ≤ m ∧ iv = .int .i64 k ∧ Chg [] w12 wx) (fun iv _ => m - (intOf iv).toNat)
      case atStart => exact ⟨0, Nat.zero_le _, rfl, hc1⟩
      case round =>
        clear hc1
        obtain ⟨k, hk, rfl, hc1⟩ := hrel
        by_cases hlk : k < m
        · have d3 : decide ((k : Int) < (m : Int)) = true := decide_eq_true (by omega)
          go_wp2_with fail
          have hrk := hrd.keep0 hc1
          obtain ⟨gx, ox, rfl, hgl⟩ := hrk.form (by rw [hyl]; omega)
          have ex := E3.of hrk (j := i) (by rw [hyl]; exact hlt)
          have ey := E3.of hrk (j := k) (by rw [hyl]; exact hlk)
          have nx := Num.of_fits (WTR.out.ok (ys.getD i q0) (mem_getD (by rw [hyl]; exact hlt))) (by omega)
          have ny := Num.of_fits (WTR.out.ok (ys.getD k q0) (mem_getD (by rw [hyl]; exact hlk))) (by omega)
          have ca := (C1.mk (hf.cell i hlt) hf.lt).keep0 hc1
          have cb := (C1.mk (hf.cell k hlk) hf.lt).keep0 hc1
          have hqx : ratOf (ys.getD i q0) - flo (ratOf (ys.getD i q0)) = sq false (N i % D) D := by rw [HCM.out.eq i hlt]; exact ap_part (by omega)
          have hqy : ratOf (ys.getD k q0) - flo (ratOf (ys.getD k q0)) = sq false (N k % D) D := by rw [HCM.out.eq k hlk]; exact ap_part (by omega)
          have HMM := Lib.hid (rest_pair HST.out HCM.out hlt hlk)
          obtain ⟨x, HXV⟩ := name_it (ys.getD i q0)
          obtain ⟨y, HYV⟩ := name_it (ys.getD k q0)
          rw [HXV.out] at ex nx hqx HMM
          rw [HYV.out] at ey ny hqy HMM
          obtain ⟨qx, HQXN⟩ := name_it (sq false (N i % D) D)
          obtain ⟨qy, HQYN⟩ := name_it (sq false (N k % D) D)
          rw [HQXN.out] at hqx HMM
          rw [HQYN.out] at hqy HMM
          have hfb1 : f i ≤ 9223372036854775807 := Nat.le_trans (apS_get hlt) HST.out.max
          have hfb2 : f k ≤ 9223372036854775807 := Nat.le_trans (apS_get hlk) HST.out.max
          obtain ⟨fi, HFI⟩ := name_it ((f i : Nat) : Int)
          obtain ⟨fk, HFK⟩ := name_it ((f k : Nat) : Int)
          have hfi : 0 ≤ fi ∧ fi ≤ 9223372036854775807 := by rw [← HFI.out]; omega
          have hfk : 0 ≤ fk ∧ fk ≤ 9223372036854775807 := by rw [← HFK.out]; omega
          rw [HFI.out] at ca HMM
          rw [HFK.out] at cb HMM
          have HQX := Lib.hid hqx
          have HQY := Lib.hid hqy
          have NX := Lib.hid nx
          have NY := Lib.hid ny
          have k1 : (0 : Int) ≤ (i : Int) := by omega
          have k2 : (i : Int) < (m : Int) := by omega
          have k3 : (0 : Int) ≤ (k : Int) := by omega
          have k4 : (k : Int) < (m : Int) := by omega
          clear hqx hqy nx ny hrk HXV HYV HQXN HQYN HFI HFK hfb1 hfb2 hgl
          go_cut [9, 10] (fun pv qv wx => KE2 wr wx pv qv qx qy (250 + (250 + 1) + 1))
          case first =>
            have hcz : Chg [] wr wr.drew := (Chg.refl _ _).drew
            replace ex := ex.keep0 hcz
            replace ey := ey.keep0 hcz
            clear hch hc1 ca cb hrd hf
            refine wp_region_held_drew (S := (fun w' => w'.cell? ⟨gx, ox + i * 3, none⟩ = some (.bool x.neg) ∧ w'.cell? ⟨gx, ox + i * 3 + 1, none⟩ = some (.string x.num) ∧ w'.cell? ⟨gx, ox + i * 3 + 2, none⟩ = some (.string x.den) ∧ w'.cell? ⟨gx, ox + k * 3, none⟩ = some (.bool y.neg) ∧ w'.cell? ⟨gx, ox + k * 3 + 1, none⟩ = some (.string y.num) ∧ w'.cell? ⟨gx, ox + k * 3 + 2, none⟩ = some (.string y.den))) (by kernel_rfl) ?_ (fun hHeld => ?_)
            · exact ⟨ex.c0, ex.c1, ex.c2, ey.c0, ey.c1, ey.c2⟩
            obtain ⟨wz, HWz⟩ := name_it wr.drew
            rw [HWz.out] at ex ey hcz hHeld ⊢
            refine wpAnyH_take (i := 0) (v := ?_) rfl (by kernel_rfl) (by kernel_rfl) (by kernel_rfl) (fun _ _ _ h => h) (Or.inl ⟨by rfl, ?_⟩) (by assumption) ?_
            rotate_left 1
            · intro w hSw
              try dsimp only at hSw
              go_simp
              try with_reducible rfl
            try simp only [Act.put, List.setIfInBounds_toArray, List.set_cons_zero, List.set_cons_succ]
            refine wpAnyH_take (i := 1) (v := ?_) rfl (by kernel_rfl) (by kernel_rfl) (by kernel_rfl) (fun _ _ _ h => h) (Or.inl ⟨by rfl, ?_⟩) (by assumption) ?_
            rotate_left 1
            · intro w hSw
              try dsimp only at hSw
              go_simp
              try with_reducible rfl
            try simp only [Act.put, List.setIfInBounds_toArray, List.set_cons_zero, List.set_cons_succ]
            refine wpAnyH_take (i := 4) (v := ?_) rfl (by kernel_rfl) (by kernel_rfl) (by kernel_rfl) (fun _ _ _ h => h) (Or.inl ⟨by rfl, ?_⟩) (by assumption) ?_
            rotate_left 1
            · intro w hSw
              try dsimp only at hSw
              go_simp
              try with_reducible rfl
            try simp only [Act.put, List.setIfInBounds_toArray, List.set_cons_zero, List.set_cons_succ]
            refine wpAnyH_take (i := 5) (v := ?_) rfl (by kernel_rfl) (by kernel_rfl) (by kernel_rfl) (fun _ _ _ h => h) (Or.inl ⟨by rfl, ?_⟩) (by assumption) ?_
            rotate_left 1
            · intro w hSw
              try dsimp only at hSw
              go_simp
              try with_reducible rfl
            try simp only [Act.put, List.setIfInBounds_toArray, List.set_cons_zero, List.set_cons_succ]
            refine wpAnyH_take (i := 10) (v := ?_) rfl (by kernel_rfl) (by kernel_rfl) (by kernel_rfl) (fun _ _ _ h => h) (Or.inl ⟨by rfl, ?_⟩) (by assumption) ?_
            rotate_left 1
            · intro w hSw
              try dsimp only at hSw
              go_simp
              try with_reducible rfl
            try simp only [Act.put, List.setIfInBounds_toArray, List.set_cons_zero, List.set_cons_succ]
            refine wpAnyH_take (i := 11) (v := ?_) rfl (by kernel_rfl) (by kernel_rfl) (by kernel_rfl) (fun _ _ _ h => h) (Or.inl ⟨by rfl, ?_⟩) (by assumption) ?_
            rotate_left 1
            · intro w hSw
              try dsimp only at hSw
              go_simp
              try with_reducible rfl
            try simp only [Act.put, List.setIfInBounds_toArray, List.set_cons_zero, List.set_cons_succ]
            refine wpAnyH_take (i := 14) (v := ?_) rfl (by kernel_rfl) (by kernel_rfl) (by kernel_rfl) (fun _ _ _ h => h) (Or.inl ⟨by rfl, ?_⟩) (by assumption) ?_
            rotate_left 1
            · intro w hSw
              try dsimp only at hSw
              go_simp
              try with_reducible rfl
            try simp only [Act.put, List.setIfInBounds_toArray, List.set_cons_zero, List.set_cons_succ]
            refine wpAnyH_take (i := 15) (v := ?_) rfl (by kernel_rfl) (by kernel_rfl) (by kernel_rfl) (fun _ _ _ h => h) (Or.inl ⟨by rfl, ?_⟩) (by assumption) ?_
            rotate_left 1
            · intro w hSw
              try dsimp only at hSw
              go_simp
              try with_reducible rfl
            try simp only [Act.put, List.setIfInBounds_toArray, List.set_cons_zero, List.set_cons_succ]
            refine wpAnyH_take (i := 2) (v := ?_) rfl (by kernel_rfl) (by kernel_rfl) (by kernel_rfl) (fun _ _ _ h => h) (Or.inl ⟨by rfl, ?_⟩) (by assumption) ?_
            rotate_left 1
            · intro w hSw
              try dsimp only at hSw
              go_simp
              try with_reducible rfl
            try simp only [Act.put, List.setIfInBounds_toArray, List.set_cons_zero, List.set_cons_succ]
            refine wpAnyH_take (i := 6) (v := ?_) rfl (by kernel_rfl) (by kernel_rfl) (by kernel_rfl) (fun _ _ _ h => h) (Or.inl ⟨by rfl, ?_⟩) (by assumption) ?_
            rotate_left 1
            · intro w hSw
              try dsimp only at hSw
              go_simp
              try with_reducible rfl
            try simp only [Act.put, List.setIfInBounds_toArray, List.set_cons_zero, List.set_cons_succ]
            refine wpAnyH_take (i := 12) (v := ?_) rfl (by kernel_rfl) (by kernel_rfl) (by kernel_rfl) (fun _ _ _ h => h) (Or.inl ⟨by rfl, ?_⟩) (by assumption) ?_
            rotate_left 1
            · intro w hSw
              try dsimp only at hSw
              go_simp
              try with_reducible rfl
            try simp only [Act.put, List.setIfInBounds_toArray, List.set_cons_zero, List.set_cons_succ]
            refine wpAnyH_take (i := 16) (v := ?_) rfl (by kernel_rfl) (by kernel_rfl) (by kernel_rfl) (fun _ _ _ h => h) (Or.inl ⟨by rfl, ?_⟩) (by assumption) ?_
            rotate_left 1
            · intro w hSw
              try dsimp only at hSw
              go_simp
              try with_reducible rfl
            try simp only [Act.put, List.setIfInBounds_toArray, List.set_cons_zero, List.set_cons_succ]
            refine wpAnyH_take (i := 3) (v := ?_) rfl (by kernel_rfl) (by kernel_rfl) (by kernel_rfl) (fun _ _ _ h => h) (Or.inl ⟨by rfl, ?_⟩) (by assumption) ?_
            rotate_left 1
            · intro w hSw
              try dsimp only at hSw
              go_simp
              try with_reducible rfl
            try simp only [Act.put, List.setIfInBounds_toArray, List.set_cons_zero, List.set_cons_succ]
            refine wpAnyH_take (i := 7) (v := ?_) rfl (by kernel_rfl) (by kernel_rfl) (by kernel_rfl) (fun _ _ _ h => h) (Or.inl ⟨by rfl, ?_⟩) (by assumption) ?_
            rotate_left 1
            · intro w hSw
              try dsimp only at hSw
              go_simp
              try with_reducible rfl
            try simp only [Act.put, List.setIfInBounds_toArray, List.set_cons_zero, List.set_cons_succ]
            refine wpAnyH_take (i := 13) (v := ?_) rfl (by kernel_rfl) (by kernel_rfl) (by kernel_rfl) (fun _ _ _ h => h) (Or.inl ⟨by rfl, ?_⟩) (by assumption) ?_
            rotate_left 1
            · intro w hSw
              try dsimp only at hSw
              go_simp
              try with_reducible rfl
            try simp only [Act.put, List.setIfInBounds_toArray, List.set_cons_zero, List.set_cons_succ]
            refine wpAnyH_take (i := 17) (v := ?_) rfl (by kernel_rfl) (by kernel_rfl) (by kernel_rfl) (fun _ _ _ h => h) (Or.inl ⟨by rfl, ?_⟩) (by assumption) ?_
            rotate_left 1
            · intro w hSw
              try dsimp only at hSw
              go_simp
              try with_reducible rfl
            try simp only [Act.put, List.setIfInBounds_toArray, List.set_cons_zero, List.set_cons_succ]
            refine wpAnyH_ready (rs := [8, 20, 21]) (by kernel_rfl) (by simp) ?_
            refine AllReadyH.cons (o := _) rfl (fun K' hK => ?_) ?_
            · go_simp
              refine (FloorN x (ratOf x) 250 _ NX.out (by omega)).mono ?_
              rintro e9 wk1 ⟨zf1, rfl, hzf1, c6⟩
              have HF1 := Lib.hid hzf1
              clear hzf1
              replace ex := ex.keep0 c6
              replace ey := ey.keep0 c6
              replace hcz := hcz.then c6
              clear c6
              go_wp2_with fail
              refine hK.out _ _ ?_ (fun hHeld => ?_)
              · exact ⟨ex.c0, ex.c1, ex.c2, ey.c0, ey.c1, ey.c2⟩
              clear hK K'
              try simp only [Act.put, List.setIfInBounds_toArray, List.set_cons_zero, List.set_cons_succ]
              refine wpAnyH_ready (rs := [9, 20, 21]) (by kernel_rfl) (by simp) ?_
              refine AllReadyH.cons (o := _) rfl (fun K' hK => ?_) ?_
              · go_simp
                refine (SubtractN x zf1 (ratOf x) (flo (ratOf x)) 250 (250 + 1) _ NX.out HF1.out.num (by omega)).mono ?_
                rintro e9 wk2 ⟨zx, rfl, hzx, c6⟩
                rw [HQX.out] at hzx
                have HX := Lib.hid hzx
                clear hzx
                replace ex := ex.keep0 c6
                replace ey := ey.keep0 c6
                replace hcz := hcz.then c6
                clear c6
                go_wp2_with fail
                refine hK.out _ _ ?_ (fun hHeld => ?_)
                · exact ⟨ex.c0, ex.c1, ex.c2, ey.c0, ey.c1, ey.c2⟩
                clear hK K'
                try simp only [Act.put, List.setIfInBounds_toArray, List.set_cons_zero, List.set_cons_succ]
                refine wpAnyH_ready (rs := [18, 20, 21]) (by kernel_rfl) (by simp) ?_
                refine AllReadyH.cons (o := _) rfl (fun K' hK => ?_) ?_
                · go_simp
                  refine (FloorN y (ratOf y) 250 _ NY.out (by omega)).mono ?_
                  rintro e9 wk3 ⟨zf2, rfl, hzf2, c6⟩
                  have HF2 := Lib.hid hzf2
                  clear hzf2
                  replace ex := ex.keep0 c6
                  replace ey := ey.keep0 c6
                  replace hcz := hcz.then c6
                  clear c6
                  go_wp2_with fail
                  refine hK.out _ _ ?_ (fun hHeld => ?_)
                  · exact ⟨ex.c0, ex.c1, ex.c2, ey.c0, ey.c1, ey.c2⟩
                  clear hK K'
                  try simp only [Act.put, List.setIfInBounds_toArray, List.set_cons_zero, List.set_cons_succ]
                  refine wpAnyH_ready (rs := [19, 20, 21]) (by kernel_rfl) (by simp) ?_
                  refine AllReadyH.cons (o := _) rfl (fun K' hK => ?_) ?_
                  · go_simp
                    refine (SubtractN y zf2 (ratOf y) (flo (ratOf y)) 250 (250 + 1) _ NY.out HF2.out.num (by omega)).mono ?_
                    rintro e9 wk4 ⟨zy, rfl, hzy, c6⟩
                    rw [HQY.out] at hzy
                    have HY := Lib.hid hzy
                    clear hzy
                    replace ex := ex.keep0 c6
                    replace ey := ey.keep0 c6
                    replace hcz := hcz.then c6
                    clear c6
                    go_wp2_with fail
                    refine hK.out _ _ ?_ (fun hHeld => ?_)
                    · exact ⟨ex.c0, ex.c1, ex.c2, ey.c0, ey.c1, ey.c2⟩
                    clear hK K'
                    try simp only [Act.put, List.setIfInBounds_toArray, List.set_cons_zero, List.set_cons_succ]
                    refine wpAnyH_ready (rs := [20, 21]) (by kernel_rfl) (by simp) ?_
                    refine AllReadyH.cons (o := _) rfl (fun K' hK => ?_) ?_
                    · go_simp
                      refine hK.out _ _ ?_ (fun hHeld => ?_)
                      · exact ⟨(ex.keep0 ((Chg.refl [] _).alloc _)).c0, (ex.keep0 ((Chg.refl [] _).alloc _)).c1, (ex.keep0 ((Chg.refl [] _).alloc _)).c2, (ey.keep0 ((Chg.refl [] _).alloc _)).c0, (ey.keep0 ((Chg.refl [] _).alloc _)).c1, (ey.keep0 ((Chg.refl [] _).alloc _)).c2⟩
                      clear hK K'
                      try simp only [Act.put, List.setIfInBounds_toArray, List.set_cons_zero, List.set_cons_succ]
                      have bP := Blk3.alloc wk4 (.bool false) (.string ⟨#[]⟩) (.string ⟨#[]⟩) 38
                      have c9 : Chg [] wk4 (wk4.alloc (.cells #[.bool false, .string ⟨#[]⟩, .string ⟨#[]⟩] 38)) := (Chg.refl _ _).alloc _
                      have laP : _ ≤ wk4.heap.size := hcz.size
                      have lxP : _ < wk4.heap.size := ex.lt
                      replace ex := ex.keep0 c9
                      replace ey := ey.keep0 c9
                      replace hcz := hcz.then c9
                      clear c9
                      obtain ⟨wq5, HWwq5⟩ := name_it (wk4.alloc (.cells #[.bool false, .string ⟨#[]⟩, .string ⟨#[]⟩] 38))
                      obtain ⟨gP, HGgP⟩ := name_it wk4.heap.size
                      rw [HWwq5.out] at ex ey bP hcz hHeld ⊢
                      rw [HGgP.out] at bP laP lxP ⊢
                      refine wpAnyH_ready (rs := [21]) (by kernel_rfl) (by simp) ?_
                      refine AllReadyH.cons (o := _) rfl (fun K' hK => ?_) AllReadyH.nil
                      go_simp
                      refine hK.out _ _ ?_ (fun hHeld => ?_)
                      · exact ⟨(ex.keep0 ((Chg.refl [] _).alloc _)).c0, (ex.keep0 ((Chg.refl [] _).alloc _)).c1, (ex.keep0 ((Chg.refl [] _).alloc _)).c2, (ey.keep0 ((Chg.refl [] _).alloc _)).c0, (ey.keep0 ((Chg.refl [] _).alloc _)).c1, (ey.keep0 ((Chg.refl [] _).alloc _)).c2⟩
                      clear hK K'
                      try simp only [Act.put, List.setIfInBounds_toArray, List.set_cons_zero, List.set_cons_succ]
                      have bR := Blk3.alloc wq5 (.bool false) (.string ⟨#[]⟩) (.string ⟨#[]⟩) 38
                      have c9 : Chg [] wq5 (wq5.alloc (.cells #[.bool false, .string ⟨#[]⟩, .string ⟨#[]⟩] 38)) := (Chg.refl _ _).alloc _
                      have laR : _ ≤ wq5.heap.size := hcz.size
                      have lxR : _ < wq5.heap.size := ex.lt
                      have lPR : _ < wq5.heap.size := bP.lt
                      replace ex := ex.keep0 c9
                      replace ey := ey.keep0 c9
                      replace bP := bP.keep0 c9
                      replace hcz := hcz.then c9
                      clear c9
                      obtain ⟨wq6, HWwq6⟩ := name_it (wq5.alloc (.cells #[.bool false, .string ⟨#[]⟩, .string ⟨#[]⟩] 38))
                      obtain ⟨gR, HGgR⟩ := name_it wq5.heap.size
                      rw [HWwq6.out] at ex ey bP bR hcz hHeld ⊢
                      rw [HGgR.out] at bR laR lxR lPR ⊢
                      refine wpAnyH_ready (rs := [22]) (by kernel_rfl) (by simp) ?_
                      refine AllReadyH.cons (o := _) rfl (fun K' hK => ?_) AllReadyH.nil
                      have bPc0 := bP.c0
                      have bPc1 := bP.c1
                      have bPc2 := bP.c2
                      have bPf0 := bP.f0
                      have bPf1 := bP.f1
                      have bPf2 := bP.f2
                      have bPl := bP.lt
                      go_simp
                      refine hK.out _ _ ?_ (fun hHeld => ?_)
                      · exact ⟨(ex.st2 (by omega) _ _ _).c0, (ex.st2 (by omega) _ _ _).c1, (ex.st2 (by omega) _ _ _).c2, (ey.st2 (by omega) _ _ _).c0, (ey.st2 (by omega) _ _ _).c1, (ey.st2 (by omega) _ _ _).c2⟩
                      clear hK K'
                      try simp only [Act.put, List.setIfInBounds_toArray, List.set_cons_zero, List.set_cons_succ]
                      clear bPc0 bPc1 bPc2 bPf0 bPf1 bPf2
                      replace ex := ex.st2 (k := gP) (by omega) (.bool zx.neg) (.string zx.num) (.string zx.den)
                      replace ey := ey.st2 (k := gP) (by omega) (.bool zx.neg) (.string zx.num) (.string zx.den)
                      replace bP := bP.store (.bool zx.neg) (.string zx.num) (.string zx.den)
                      replace bR := bR.st2 (k := gP) (by omega) (.bool zx.neg) (.string zx.num) (.string zx.den)
                      replace hcz := hcz.store3 (.inr laP) (.bool zx.neg) (.string zx.num) (.string zx.den)
                      clear bPl
                      obtain ⟨ws7, HWws7⟩ := name_it (((wq6.setCell ⟨gP, 0, none⟩ (.bool zx.neg)).setCell ⟨gP, 1, none⟩ (.string zx.num)).setCell ⟨gP, 2, none⟩ (.string zx.den))
                      rw [HWws7.out] at ex ey bP bR hcz hHeld ⊢
                      refine wpAnyH_ready (rs := [23]) (by kernel_rfl) (by simp) ?_
                      refine AllReadyH.cons (o := _) rfl (fun K' hK => ?_) AllReadyH.nil
                      have bRc0 := bR.c0
                      have bRc1 := bR.c1
                      have bRc2 := bR.c2
                      have bRf0 := bR.f0
                      have bRf1 := bR.f1
                      have bRf2 := bR.f2
                      have bRl := bR.lt
                      go_simp
                      refine hK.out _ _ ?_ (fun hHeld => ?_)
                      · exact ⟨(ex.st2 (by omega) _ _ _).c0, (ex.st2 (by omega) _ _ _).c1, (ex.st2 (by omega) _ _ _).c2, (ey.st2 (by omega) _ _ _).c0, (ey.st2 (by omega) _ _ _).c1, (ey.st2 (by omega) _ _ _).c2⟩
                      clear hK K'
                      try simp only [Act.put, List.setIfInBounds_toArray, List.set_cons_zero, List.set_cons_succ]
                      clear bRc0 bRc1 bRc2 bRf0 bRf1 bRf2
                      replace ex := ex.st2 (k := gR) (by omega) (.bool zy.neg) (.string zy.num) (.string zy.den)
                      replace ey := ey.st2 (k := gR) (by omega) (.bool zy.neg) (.string zy.num) (.string zy.den)
                      replace bP := bP.st2 (k := gR) (by omega) (.bool zy.neg) (.string zy.num) (.string zy.den)
                      replace bR := bR.store (.bool zy.neg) (.string zy.num) (.string zy.den)
                      replace hcz := hcz.store3 (.inr laR) (.bool zy.neg) (.string zy.num) (.string zy.den)
                      clear bRl
                      obtain ⟨ws8, HWws8⟩ := name_it (((ws7.setCell ⟨gR, 0, none⟩ (.bool zy.neg)).setCell ⟨gR, 1, none⟩ (.string zy.num)).setCell ⟨gR, 2, none⟩ (.string zy.den))
                      rw [HWws8.out] at ex ey bP bR hcz hHeld ⊢
                      refine wpAnyH_done (by kernel_rfl) ?_ _
                      go_wp2_with fail
                      go_meet
                      exact ⟨⟨_, _, zx, zy, rfl, rfl, HX.out, HY.out, bP, bR⟩, hcz⟩
                    refine AllReadyH.cons (o := _) rfl (fun K' hK => ?_) AllReadyH.nil
                    go_simp
                    refine hK.out _ _ ?_ (fun hHeld => ?_)
                    · exact ⟨(ex.keep0 ((Chg.refl [] _).alloc _)).c0, (ex.keep0 ((Chg.refl [] _).alloc _)).c1, (ex.keep0 ((Chg.refl [] _).alloc _)).c2, (ey.keep0 ((Chg.refl [] _).alloc _)).c0, (ey.keep0 ((Chg.refl [] _).alloc _)).c1, (ey.keep0 ((Chg.refl [] _).alloc _)).c2⟩
                    clear hK K'
                    try simp only [Act.put, List.setIfInBounds_toArray, List.set_cons_zero, List.set_cons_succ]
                    have bR := Blk3.alloc wk4 (.bool false) (.string ⟨#[]⟩) (.string ⟨#[]⟩) 38
                    have c9 : Chg [] wk4 (wk4.alloc (.cells #[.bool false, .string ⟨#[]⟩, .string ⟨#[]⟩] 38)) := (Chg.refl _ _).alloc _
                    have laR : _ ≤ wk4.heap.size := hcz.size
                    have lxR : _ < wk4.heap.size := ex.lt
                    replace ex := ex.keep0 c9
                    replace ey := ey.keep0 c9
                    replace hcz := hcz.then c9
                    clear c9
                    obtain ⟨wq9, HWwq9⟩ := name_it (wk4.alloc (.cells #[.bool false, .string ⟨#[]⟩, .string ⟨#[]⟩] 38))
                    obtain ⟨gR, HGgR⟩ := name_it wk4.heap.size
                    rw [HWwq9.out] at ex ey bR hcz hHeld ⊢
                    rw [HGgR.out] at bR laR lxR ⊢
                    refine wpAnyH_ready (rs := [20]) (by kernel_rfl) (by simp) ?_
                    refine AllReadyH.cons (o := _) rfl (fun K' hK => ?_) AllReadyH.nil
                    go_simp
                    refine hK.out _ _ ?_ (fun hHeld => ?_)
                    · exact ⟨(ex.keep0 ((Chg.refl [] _).alloc _)).c0, (ex.keep0 ((Chg.refl [] _).alloc _)).c1, (ex.keep0 ((Chg.refl [] _).alloc _)).c2, (ey.keep0 ((Chg.refl [] _).alloc _)).c0, (ey.keep0 ((Chg.refl [] _).alloc _)).c1, (ey.keep0 ((Chg.refl [] _).alloc _)).c2⟩
                    clear hK K'
                    try simp only [Act.put, List.setIfInBounds_toArray, List.set_cons_zero, List.set_cons_succ]
                    have bP := Blk3.alloc wq9 (.bool false) (.string ⟨#[]⟩) (.string ⟨#[]⟩) 38
                    have c9 : Chg [] wq9 (wq9.alloc (.cells #[.bool false, .string ⟨#[]⟩, .string ⟨#[]⟩] 38)) := (Chg.refl _ _).alloc _
                    have laP : _ ≤ wq9.heap.size := hcz.size
                    have lxP : _ < wq9.heap.size := ex.lt
                    have lRP : _ < wq9.heap.size := bR.lt
                    replace ex := ex.keep0 c9
                    replace ey := ey.keep0 c9
                    replace bR := bR.keep0 c9
                    replace hcz := hcz.then c9
                    clear c9
                    obtain ⟨wq10, HWwq10⟩ := name_it (wq9.alloc (.cells #[.bool false, .string ⟨#[]⟩, .string ⟨#[]⟩] 38))
                    obtain ⟨gP, HGgP⟩ := name_it wq9.heap.size
                    rw [HWwq10.out] at ex ey bR bP hcz hHeld ⊢
                    rw [HGgP.out] at bP laP lxP lRP ⊢
                    refine wpAnyH_ready (rs := [22]) (by kernel_rfl) (by simp) ?_
                    refine AllReadyH.cons (o := _) rfl (fun K' hK => ?_) AllReadyH.nil
                    have bPc0 := bP.c0
                    have bPc1 := bP.c1
                    have bPc2 := bP.c2
                    have bPf0 := bP.f0
                    have bPf1 := bP.f1
                    have bPf2 := bP.f2
                    have bPl := bP.lt
                    go_simp
                    refine hK.out _ _ ?_ (fun hHeld => ?_)
                    · exact ⟨(ex.st2 (by omega) _ _ _).c0, (ex.st2 (by omega) _ _ _).c1, (ex.st2 (by omega) _ _ _).c2, (ey.st2 (by omega) _ _ _).c0, (ey.st2 (by omega) _ _ _).c1, (ey.st2 (by omega) _ _ _).c2⟩
                    clear hK K'
                    try simp only [Act.put, List.setIfInBounds_toArray, List.set_cons_zero, List.set_cons_succ]
                    clear bPc0 bPc1 bPc2 bPf0 bPf1 bPf2
                    replace ex := ex.st2 (k := gP) (by omega) (.bool zx.neg) (.string zx.num) (.string zx.den)
                    replace ey := ey.st2 (k := gP) (by omega) (.bool zx.neg) (.string zx.num) (.string zx.den)
                    replace bR := bR.st2 (k := gP) (by omega) (.bool zx.neg) (.string zx.num) (.string zx.den)
                    replace bP := bP.store (.bool zx.neg) (.string zx.num) (.string zx.den)
                    replace hcz := hcz.store3 (.inr laP) (.bool zx.neg) (.string zx.num) (.string zx.den)
                    clear bPl
                    obtain ⟨ws11, HWws11⟩ := name_it (((wq10.setCell ⟨gP, 0, none⟩ (.bool zx.neg)).setCell ⟨gP, 1, none⟩ (.string zx.num)).setCell ⟨gP, 2, none⟩ (.string zx.den))
                    rw [HWws11.out] at ex ey bR bP hcz hHeld ⊢
                    refine wpAnyH_ready (rs := [23]) (by kernel_rfl) (by simp) ?_
                    refine AllReadyH.cons (o := _) rfl (fun K' hK => ?_) AllReadyH.nil
                    have bRc0 := bR.c0
                    have bRc1 := bR.c1
                    have bRc2 := bR.c2
                    have bRf0 := bR.f0
                    have bRf1 := bR.f1
                    have bRf2 := bR.f2
                    have bRl := bR.lt
                    go_simp
                    refine hK.out _ _ ?_ (fun hHeld => ?_)
                    · exact ⟨(ex.st2 (by omega) _ _ _).c0, (ex.st2 (by omega) _ _ _).c1, (ex.st2 (by omega) _ _ _).c2, (ey.st2 (by omega) _ _ _).c0, (ey.st2 (by omega) _ _ _).c1, (ey.st2 (by omega) _ _ _).c2⟩
                    clear hK K'
                    try simp only [Act.put, List.setIfInBounds_toArray, List.set_cons_zero, List.set_cons_succ]
                    clear bRc0 bRc1 bRc2 bRf0 bRf1 bRf2
                    replace ex := ex.st2 (k := gR) (by omega) (.bool zy.neg) (.string zy.num) (.string zy.den)
                    replace ey := ey.st2 (k := gR) (by omega) (.bool zy.neg) (.string zy.num) (.string zy.den)
                    replace bR := bR.store (.bool zy.neg) (.string zy.num) (.string zy.den)
                    replace bP := bP.st2 (k := gR) (by omega) (.bool zy.neg) (.string zy.num) (.string zy.den)
                    replace hcz := hcz.store3 (.inr laR) (.bool zy.neg) (.string zy.num) (.string zy.den)
                    clear bRl
                    obtain ⟨ws12, HWws12⟩ := name_it (((ws11.setCell ⟨gR, 0, none⟩ (.bool zy.neg)).setCell ⟨gR, 1, none⟩ (.string zy.num)).setCell ⟨gR, 2, none⟩ (.string zy.den))
                    rw [HWws12.out] at ex ey bR bP hcz hHeld ⊢
                    refine wpAnyH_done (by kernel_rfl) ?_ _
                    go_wp2_with fail
                    go_meet
                    exact ⟨⟨_, _, zx, zy, rfl, rfl, HX.out, HY.out, bP, bR⟩, hcz⟩
                  refine AllReadyH.cons (o := _) rfl (fun K' hK => ?_) ?_
                  · go_simp
                    refine hK.out _ _ ?_ (fun hHeld => ?_)
                    · exact ⟨(ex.keep0 ((Chg.refl [] _).alloc _)).c0, (ex.keep0 ((Chg.refl [] _).alloc _)).c1, (ex.keep0 ((Chg.refl [] _).alloc _)).c2, (ey.keep0 ((Chg.refl [] _).alloc _)).c0, (ey.keep0 ((Chg.refl [] _).alloc _)).c1, (ey.keep0 ((Chg.refl [] _).alloc _)).c2⟩
                    clear hK K'
                    try simp only [Act.put, List.setIfInBounds_toArray, List.set_cons_zero, List.set_cons_succ]
                    have bP := Blk3.alloc wk3 (.bool false) (.string ⟨#[]⟩) (.string ⟨#[]⟩) 38
                    have c9 : Chg [] wk3 (wk3.alloc (.cells #[.bool false, .string ⟨#[]⟩, .string ⟨#[]⟩] 38)) := (Chg.refl _ _).alloc _
                    have laP : _ ≤ wk3.heap.size := hcz.size
                    have lxP : _ < wk3.heap.size := ex.lt
                    replace ex := ex.keep0 c9
                    replace ey := ey.keep0 c9
                    replace hcz := hcz.then c9
                    clear c9
                    obtain ⟨wq13, HWwq13⟩ := name_it (wk3.alloc (.cells #[.bool false, .string ⟨#[]⟩, .string ⟨#[]⟩] 38))
                    obtain ⟨gP, HGgP⟩ := name_it wk3.heap.size
                    rw [HWwq13.out] at ex ey bP hcz hHeld ⊢
                    rw [HGgP.out] at bP laP lxP ⊢
                    refine wpAnyH_ready (rs := [19, 21]) (by kernel_rfl) (by simp) ?_
                    refine AllReadyH.cons (o := _) rfl (fun K' hK => ?_) ?_
                    · go_simp
                      refine (SubtractN y zf2 (ratOf y) (flo (ratOf y)) 250 (250 + 1) _ NY.out HF2.out.num (by omega)).mono ?_
                      rintro e9 wk14 ⟨zy, rfl, hzy, c6⟩
                      rw [HQY.out] at hzy
                      have HY := Lib.hid hzy
                      clear hzy
                      replace ex := ex.keep0 c6
                      replace ey := ey.keep0 c6
                      replace bP := bP.keep0 c6
                      replace hcz := hcz.then c6
                      clear c6
                      go_wp2_with fail
                      refine hK.out _ _ ?_ (fun hHeld => ?_)
                      · exact ⟨ex.c0, ex.c1, ex.c2, ey.c0, ey.c1, ey.c2⟩
                      clear hK K'
                      try simp only [Act.put, List.setIfInBounds_toArray, List.set_cons_zero, List.set_cons_succ]
                      refine wpAnyH_ready (rs := [21]) (by kernel_rfl) (by simp) ?_
                      refine AllReadyH.cons (o := _) rfl (fun K' hK => ?_) AllReadyH.nil
                      go_simp
                      refine hK.out _ _ ?_ (fun hHeld => ?_)
                      · exact ⟨(ex.keep0 ((Chg.refl [] _).alloc _)).c0, (ex.keep0 ((Chg.refl [] _).alloc _)).c1, (ex.keep0 ((Chg.refl [] _).alloc _)).c2, (ey.keep0 ((Chg.refl [] _).alloc _)).c0, (ey.keep0 ((Chg.refl [] _).alloc _)).c1, (ey.keep0 ((Chg.refl [] _).alloc _)).c2⟩
                      clear hK K'
                      try simp only [Act.put, List.setIfInBounds_toArray, List.set_cons_zero, List.set_cons_succ]
                      have bR := Blk3.alloc wk14 (.bool false) (.string ⟨#[]⟩) (.string ⟨#[]⟩) 38
                      have c9 : Chg [] wk14 (wk14.alloc (.cells #[.bool false, .string ⟨#[]⟩, .string ⟨#[]⟩] 38)) := (Chg.refl _ _).alloc _
                      have laR : _ ≤ wk14.heap.size := hcz.size
                      have lxR : _ < wk14.heap.size := ex.lt
                      have lPR : _ < wk14.heap.size := bP.lt
                      replace ex := ex.keep0 c9
                      replace ey := ey.keep0 c9
                      replace bP := bP.keep0 c9
                      replace hcz := hcz.then c9
                      clear c9
                      obtain ⟨wq15, HWwq15⟩ := name_it (wk14.alloc (.cells #[.bool false, .string ⟨#[]⟩, .string ⟨#[]⟩] 38))
                      obtain ⟨gR, HGgR⟩ := name_it wk14.heap.size
                      rw [HWwq15.out] at ex ey bP bR hcz hHeld ⊢
                      rw [HGgR.out] at bR laR lxR lPR ⊢
                      refine wpAnyH_ready (rs := [22]) (by kernel_rfl) (by simp) ?_
                      refine AllReadyH.cons (o := _) rfl (fun K' hK => ?_) AllReadyH.nil
                      have bPc0 := bP.c0
                      have bPc1 := bP.c1
                      have bPc2 := bP.c2
                      have bPf0 := bP.f0
                      have bPf1 := bP.f1
                      have bPf2 := bP.f2
                      have bPl := bP.lt
                      go_simp
                      refine hK.out _ _ ?_ (fun hHeld => ?_)
                      · exact ⟨(ex.st2 (by omega) _ _ _).c0, (ex.st2 (by omega) _ _ _).c1, (ex.st2 (by omega) _ _ _).c2, (ey.st2 (by omega) _ _ _).c0, (ey.st2 (by omega) _ _ _).c1, (ey.st2 (by omega) _ _ _).c2⟩
                      clear hK K'
                      try simp only [Act.put, List.setIfInBounds_toArray, List.set_cons_zero, List.set_cons_succ]
                      clear bPc0 bPc1 bPc2 bPf0 bPf1 bPf2
                      replace ex := ex.st2 (k := gP) (by omega) (.bool zx.neg) (.string zx.num) (.string zx.den)
                      replace ey := ey.st2 (k := gP) (by omega) (.bool zx.neg) (.string zx.num) (.string zx.den)
                      replace bP := bP.store (.bool zx.neg) (.string zx.num) (.string zx.den)
                      replace bR := bR.st2 (k := gP) (by omega) (.bool zx.neg) (.string zx.num) (.string zx.den)
                      replace hcz := hcz.store3 (.inr laP) (.bool zx.neg) (.string zx.num) (.string zx.den)
                      clear bPl
                      obtain ⟨ws16, HWws16⟩ := name_it (((wq15.setCell ⟨gP, 0, none⟩ (.bool zx.neg)).setCell ⟨gP, 1, none⟩ (.string zx.num)).setCell ⟨gP, 2, none⟩ (.string zx.den))
                      rw [HWws16.out] at ex ey bP bR hcz hHeld ⊢
                      refine wpAnyH_ready (rs := [23]) (by kernel_rfl) (by simp) ?_
                      refine AllReadyH.cons (o := _) rfl (fun K' hK => ?_) AllReadyH.nil
                      have bRc0 := bR.c0
                      have bRc1 := bR.c1
                      have bRc2 := bR.c2
                      have bRf0 := bR.f0
                      have bRf1 := bR.f1
                      have bRf2 := bR.f2
                      have bRl := bR.lt
                      go_simp
                      refine hK.out _ _ ?_ (fun hHeld => ?_)
                      · exact ⟨(ex.st2 (by omega) _ _ _).c0, (ex.st2 (by omega) _ _ _).c1, (ex.st2 (by omega) _ _ _).c2, (ey.st2 (by omega) _ _ _).c0, (ey.st2 (by omega) _ _ _).c1, (ey.st2 (by omega) _ _ _).c2⟩
                      clear hK K'
                      try simp only [Act.put, List.setIfInBounds_toArray, List.set_cons_zero, List.set_cons_succ]
                      clear bRc0 bRc1 bRc2 bRf0 bRf1 bRf2
                      replace ex := ex.st2 (k := gR) (by omega) (.bool zy.neg) (.string zy.num) (.string zy.den)
                      replace ey := ey.st2 (k := gR) (by omega) (.bool zy.neg) (.string zy.num) (.string zy.den)
                      replace bP := bP.st2 (k := gR) (by omega) (.bool zy.neg) (.string zy.num) (.string zy.den)
                      replace bR := bR.store (.bool zy.neg) (.string zy.num) (.string zy.den)
                      replace hcz := hcz.store3 (.inr laR) (.bool zy.neg) (.string zy.num) (.string zy.den)
                      clear bRl
                      obtain ⟨ws17, HWws17⟩ := name_it (((ws16.setCell ⟨gR, 0, none⟩ (.bool zy.neg)).setCell ⟨gR, 1, none⟩ (.string zy.num)).setCell ⟨gR, 2, none⟩ (.string zy.den))
                      rw [HWws17.out] at ex ey bP bR hcz hHeld ⊢
                      refine wpAnyH_done (by kernel_rfl) ?_ _
                      go_wp2_with fail
                      go_meet
                      exact ⟨⟨_, _, zx, zy, rfl, rfl, HX.out, HY.out, bP, bR⟩, hcz⟩
                    refine AllReadyH.cons (o := _) rfl (fun K' hK => ?_) AllReadyH.nil
                    go_simp
                    refine hK.out _ _ ?_ (fun hHeld => ?_)
                    · exact ⟨(ex.keep0 ((Chg.refl [] _).alloc _)).c0, (ex.keep0 ((Chg.refl [] _).alloc _)).c1, (ex.keep0 ((Chg.refl [] _).alloc _)).c2, (ey.keep0 ((Chg.refl [] _).alloc _)).c0, (ey.keep0 ((Chg.refl [] _).alloc _)).c1, (ey.keep0 ((Chg.refl [] _).alloc _)).c2⟩
                    clear hK K'
                    try simp only [Act.put, List.setIfInBounds_toArray, List.set_cons_zero, List.set_cons_succ]
                    have bR := Blk3.alloc wq13 (.bool false) (.string ⟨#[]⟩) (.string ⟨#[]⟩) 38
                    have c9 : Chg [] wq13 (wq13.alloc (.cells #[.bool false, .string ⟨#[]⟩, .string ⟨#[]⟩] 38)) := (Chg.refl _ _).alloc _
                    have laR : _ ≤ wq13.heap.size := hcz.size
                    have lxR : _ < wq13.heap.size := ex.lt
                    have lPR : _ < wq13.heap.size := bP.lt
                    replace ex := ex.keep0 c9
                    replace ey := ey.keep0 c9
                    replace bP := bP.keep0 c9
                    replace hcz := hcz.then c9
                    clear c9
                    obtain ⟨wq18, HWwq18⟩ := name_it (wq13.alloc (.cells #[.bool false, .string ⟨#[]⟩, .string ⟨#[]⟩] 38))
                    obtain ⟨gR, HGgR⟩ := name_it wq13.heap.size
                    rw [HWwq18.out] at ex ey bP bR hcz hHeld ⊢
                    rw [HGgR.out] at bR laR lxR lPR ⊢
                    refine wpAnyH_ready (rs := [19]) (by kernel_rfl) (by simp) ?_
                    refine AllReadyH.cons (o := _) rfl (fun K' hK => ?_) AllReadyH.nil
                    go_simp
                    refine (SubtractN y zf2 (ratOf y) (flo (ratOf y)) 250 (250 + 1) _ NY.out HF2.out.num (by omega)).mono ?_
                    rintro e9 wk19 ⟨zy, rfl, hzy, c6⟩
                    rw [HQY.out] at hzy
                    have HY := Lib.hid hzy
                    clear hzy
                    replace ex := ex.keep0 c6
                    replace ey := ey.keep0 c6
                    replace bP := bP.keep0 c6
                    replace bR := bR.keep0 c6
                    replace hcz := hcz.then c6
                    clear c6
                    go_wp2_with fail
                    refine hK.out _ _ ?_ (fun hHeld => ?_)
                    · exact ⟨ex.c0, ex.c1, ex.c2, ey.c0, ey.c1, ey.c2⟩
                    clear hK K'
                    try simp only [Act.put, List.setIfInBounds_toArray, List.set_cons_zero, List.set_cons_succ]
                    refine wpAnyH_ready (rs := [22]) (by kernel_rfl) (by simp) ?_
                    refine AllReadyH.cons (o := _) rfl (fun K' hK => ?_) AllReadyH.nil
                    have bPc0 := bP.c0
                    have bPc1 := bP.c1
                    have bPc2 := bP.c2
                    have bPf0 := bP.f0
                    have bPf1 := bP.f1
                    have bPf2 := bP.f2
                    have bPl := bP.lt
                    go_simp
                    refine hK.out _ _ ?_ (fun hHeld => ?_)
                    · exact ⟨(ex.st2 (by omega) _ _ _).c0, (ex.st2 (by omega) _ _ _).c1, (ex.st2 (by omega) _ _ _).c2, (ey.st2 (by omega) _ _ _).c0, (ey.st2 (by omega) _ _ _).c1, (ey.st2 (by omega) _ _ _).c2⟩
                    clear hK K'
                    try simp only [Act.put, List.setIfInBounds_toArray, List.set_cons_zero, List.set_cons_succ]
                    clear bPc0 bPc1 bPc2 bPf0 bPf1 bPf2
                    replace ex := ex.st2 (k := gP) (by omega) (.bool zx.neg) (.string zx.num) (.string zx.den)
                    replace ey := ey.st2 (k := gP) (by omega) (.bool zx.neg) (.string zx.num) (.string zx.den)
                    replace bP := bP.store (.bool zx.neg) (.string zx.num) (.string zx.den)
                    replace bR := bR.st2 (k := gP) (by omega) (.bool zx.neg) (.string zx.num) (.string zx.den)
                    replace hcz := hcz.store3 (.inr laP) (.bool zx.neg) (.string zx.num) (.string zx.den)
                    clear bPl
                    obtain ⟨ws20, HWws20⟩ := name_it (((wk19.setCell ⟨gP, 0, none⟩ (.bool zx.neg)).setCell ⟨gP, 1, none⟩ (.string zx.num)).setCell ⟨gP, 2, none⟩ (.string zx.den))
                    rw [HWws20.out] at ex ey bP bR hcz hHeld ⊢
                    refine wpAnyH_ready (rs := [23]) (by kernel_rfl) (by simp) ?_
                    refine AllReadyH.cons (o := _) rfl (fun K' hK => ?_) AllReadyH.nil
                    have bRc0 := bR.c0
                    have bRc1 := bR.c1
                    have bRc2 := bR.c2
                    have bRf0 := bR.f0
                    have bRf1 := bR.f1
                    have bRf2 := bR.f2
                    have bRl := bR.lt
                    go_simp
                    refine hK.out _ _ ?_ (fun hHeld => ?_)
                    · exact ⟨(ex.st2 (by omega) _ _ _).c0, (ex.st2 (by omega) _ _ _).c1, (ex.st2 (by omega) _ _ _).c2, (ey.st2 (by omega) _ _ _).c0, (ey.st2 (by omega) _ _ _).c1, (ey.st2 (by omega) _ _ _).c2⟩
                    clear hK K'
                    try simp only [Act.put, List.setIfInBounds_toArray, List.set_cons_zero, List.set_cons_succ]
                    clear bRc0 bRc1 bRc2 bRf0 bRf1 bRf2
                    replace ex := ex.st2 (k := gR) (by omega) (.bool zy.neg) (.string zy.num) (.string zy.den)
                    replace ey := ey.st2 (k := gR) (by omega) (.bool zy.neg) (.string zy.num) (.string zy.den)
                    replace bP := bP.st2 (k := gR) (by omega) (.bool zy.neg) (.string zy.num) (.string zy.den)
                    replace bR := bR.store (.bool zy.neg) (.string zy.num) (.string zy.den)
                    replace hcz := hcz.store3 (.inr laR) (.bool zy.neg) (.string zy.num) (.string zy.den)
                    clear bRl
                    obtain ⟨ws21, HWws21⟩ := name_it (((ws20.setCell ⟨gR, 0, none⟩ (.bool zy.neg)).setCell ⟨gR, 1, none⟩ (.string zy.num)).setCell ⟨gR, 2, none⟩ (.string zy.den))
                    rw [HWws21.out] at ex ey bP bR hcz hHeld ⊢
                    refine wpAnyH_done (by kernel_rfl) ?_ _
                    go_wp2_with fail
                    go_meet
                    exact ⟨⟨_, _, zx, zy, rfl, rfl, HX.out, HY.out, bP, bR⟩, hcz⟩
                  refine AllReadyH.cons (o := _) rfl (fun K' hK => ?_) AllReadyH.nil
                  go_simp
                  refine hK.out _ _ ?_ (fun hHeld => ?_)
                  · exact ⟨(ex.keep0 ((Chg.refl [] _).alloc _)).c0, (ex.keep0 ((Chg.refl [] _).alloc _)).c1, (ex.keep0 ((Chg.refl [] _).alloc _)).c2, (ey.keep0 ((Chg.refl [] _).alloc _)).c0, (ey.keep0 ((Chg.refl [] _).alloc _)).c1, (ey.keep0 ((Chg.refl [] _).alloc _)).c2⟩
                  clear hK K'
                  try simp only [Act.put, List.setIfInBounds_toArray, List.set_cons_zero, List.set_cons_succ]
                  have bR := Blk3.alloc wk3 (.bool false) (.string ⟨#[]⟩) (.string ⟨#[]⟩) 38
                  have c9 : Chg [] wk3 (wk3.alloc (.cells #[.bool false, .string ⟨#[]⟩, .string ⟨#[]⟩] 38)) := (Chg.refl _ _).alloc _
                  have laR : _ ≤ wk3.heap.size := hcz.size
                  have lxR : _ < wk3.heap.size := ex.lt
                  replace ex := ex.keep0 c9
                  replace ey := ey.keep0 c9
                  replace hcz := hcz.then c9
                  clear c9
                  obtain ⟨wq22, HWwq22⟩ := name_it (wk3.alloc (.cells #[.bool false, .string ⟨#[]⟩, .string ⟨#[]⟩] 38))
                  obtain ⟨gR, HGgR⟩ := name_it wk3.heap.size
                  rw [HWwq22.out] at ex ey bR hcz hHeld ⊢
                  rw [HGgR.out] at bR laR lxR ⊢
                  refine wpAnyH_ready (rs := [19, 20]) (by kernel_rfl) (by simp) ?_
                  refine AllReadyH.cons (o := _) rfl (fun K' hK => ?_) ?_
                  · go_simp
                    refine (SubtractN y zf2 (ratOf y) (flo (ratOf y)) 250 (250 + 1) _ NY.out HF2.out.num (by omega)).mono ?_
                    rintro e9 wk23 ⟨zy, rfl, hzy, c6⟩
                    rw [HQY.out] at hzy
                    have HY := Lib.hid hzy
                    clear hzy
                    replace ex := ex.keep0 c6
                    replace ey := ey.keep0 c6
                    replace bR := bR.keep0 c6
                    replace hcz := hcz.then c6
                    clear c6
                    go_wp2_with fail
                    refine hK.out _ _ ?_ (fun hHeld => ?_)
                    · exact ⟨ex.c0, ex.c1, ex.c2, ey.c0, ey.c1, ey.c2⟩
                    clear hK K'
                    try simp only [Act.put, List.setIfInBounds_toArray, List.set_cons_zero, List.set_cons_succ]
                    refine wpAnyH_ready (rs := [20]) (by kernel_rfl) (by simp) ?_
                    refine AllReadyH.cons (o := _) rfl (fun K' hK => ?_) AllReadyH.nil
                    go_simp
                    refine hK.out _ _ ?_ (fun hHeld => ?_)
                    · exact ⟨(ex.keep0 ((Chg.refl [] _).alloc _)).c0, (ex.keep0 ((Chg.refl [] _).alloc _)).c1, (ex.keep0 ((Chg.refl [] _).alloc _)).c2, (ey.keep0 ((Chg.refl [] _).alloc _)).c0, (ey.keep0 ((Chg.refl [] _).alloc _)).c1, (ey.keep0 ((Chg.refl [] _).alloc _)).c2⟩
                    clear hK K'
                    try simp only [Act.put, List.setIfInBounds_toArray, List.set_cons_zero, List.set_cons_succ]
                    have bP := Blk3.alloc wk23 (.bool false) (.string ⟨#[]⟩) (.string ⟨#[]⟩) 38
                    have c9 : Chg [] wk23 (wk23.alloc (.cells #[.bool false, .string ⟨#[]⟩, .string ⟨#[]⟩] 38)) := (Chg.refl _ _).alloc _
                    have laP : _ ≤ wk23.heap.size := hcz.size
                    have lxP : _ < wk23.heap.size := ex.lt
                    have lRP : _ < wk23.heap.size := bR.lt
                    replace ex := ex.keep0 c9
                    replace ey := ey.keep0 c9
                    replace bR := bR.keep0 c9
                    replace hcz := hcz.then c9
                    clear c9
                    obtain ⟨wq24, HWwq24⟩ := name_it (wk23.alloc (.cells #[.bool false, .string ⟨#[]⟩, .string ⟨#[]⟩] 38))
                    obtain ⟨gP, HGgP⟩ := name_it wk23.heap.size
                    rw [HWwq24.out] at ex ey bR bP hcz hHeld ⊢
                    rw [HGgP.out] at bP laP lxP lRP ⊢
                    refine wpAnyH_ready (rs := [22]) (by kernel_rfl) (by simp) ?_
                    refine AllReadyH.cons (o := _) rfl (fun K' hK => ?_) AllReadyH.nil
                    have bPc0 := bP.c0
                    have bPc1 := bP.c1
                    have bPc2 := bP.c2
                    have bPf0 := bP.f0
                    have bPf1 := bP.f1
                    have bPf2 := bP.f2
                    have bPl := bP.lt
                    go_simp
                    refine hK.out _ _ ?_ (fun hHeld => ?_)
                    · exact ⟨(ex.st2 (by omega) _ _ _).c0, (ex.st2 (by omega) _ _ _).c1, (ex.st2 (by omega) _ _ _).c2, (ey.st2 (by omega) _ _ _).c0, (ey.st2 (by omega) _ _ _).c1, (ey.st2 (by omega) _ _ _).c2⟩
                    clear hK K'
                    try simp only [Act.put, List.setIfInBounds_toArray, List.set_cons_zero, List.set_cons_succ]
                    clear bPc0 bPc1 bPc2 bPf0 bPf1 bPf2
                    replace ex := ex.st2 (k := gP) (by omega) (.bool zx.neg) (.string zx.num) (.string zx.den)
                    replace ey := ey.st2 (k := gP) (by omega) (.bool zx.neg) (.string zx.num) (.string zx.den)
                    replace bR := bR.st2 (k := gP) (by omega) (.bool zx.neg) (.string zx.num) (.string zx.den)
                    replace bP := bP.store (.bool zx.neg) (.string zx.num) (.string zx.den)
                    replace hcz := hcz.store3 (.inr laP) (.bool zx.neg) (.string zx.num) (.string zx.den)
                    clear bPl
                    obtain ⟨ws25, HWws25⟩ := name_it (((wq24.setCell ⟨gP, 0, none⟩ (.bool zx.neg)).setCell ⟨gP, 1, none⟩ (.string zx.num)).setCell ⟨gP, 2, none⟩ (.string zx.den))
                    rw [HWws25.out] at ex ey bR bP hcz hHeld ⊢
                    refine wpAnyH_ready (rs := [23]) (by kernel_rfl) (by simp) ?_
                    refine AllReadyH.cons (o := _) rfl (fun K' hK => ?_) AllReadyH.nil
                    have bRc0 := bR.c0
                    have bRc1 := bR.c1
                    have bRc2 := bR.c2
                    have bRf0 := bR.f0
                    have bRf1 := bR.f1
                    have bRf2 := bR.f2
                    have bRl := bR.lt
                    go_simp
                    refine hK.out _ _ ?_ (fun hHeld => ?_)
                    · exact ⟨(ex.st2 (by omega) _ _ _).c0, (ex.st2 (by omega) _ _ _).c1, (ex.st2 (by omega) _ _ _).c2, (ey.st2 (by omega) _ _ _).c0, (ey.st2 (by omega) _ _ _).c1, (ey.st2 (by omega) _ _ _).c2⟩
                    clear hK K'
                    try simp only [Act.put, List.setIfInBounds_toArray, List.set_cons_zero, List.set_cons_succ]
                    clear bRc0 bRc1 bRc2 bRf0 bRf1 bRf2
                    replace ex := ex.st2 (k := gR) (by omega) (.bool zy.neg) (.string zy.num) (.string zy.den)
                    replace ey := ey.st2 (k := gR) (by omega) (.bool zy.neg) (.string zy.num) (.string zy.den)
                    replace bR := bR.store (.bool zy.neg) (.string zy.num) (.string zy.den)
                    replace bP := bP.st2 (k := gR) (by omega) (.bool zy.neg) (.string zy.num) (.string zy.den)
                    replace hcz := hcz.store3 (.inr laR) (.bool zy.neg) (.string zy.num) (.string zy.den)
                    clear bRl
                    obtain ⟨ws26, HWws26⟩ := name_it (((ws25.setCell ⟨gR, 0, none⟩ (.bool zy.neg)).setCell ⟨gR, 1, none⟩ (.string zy.num)).setCell ⟨gR, 2, none⟩ (.string zy.den))
                    rw [HWws26.out] at ex ey bR bP hcz hHeld ⊢
                    refine wpAnyH_done (by kernel_rfl) ?_ _
                    go_wp2_with fail
                    go_meet
                    exact ⟨⟨_, _, zx, zy, rfl, rfl, HX.out, HY.out, bP, bR⟩, hcz⟩
                  refine AllReadyH.cons (o := _) rfl (fun K' hK => ?_) AllReadyH.nil
                  go_simp
                  refine hK.out _ _ ?_ (fun hHeld => ?_)
                  · exact ⟨(ex.keep0 ((Chg.refl [] _).alloc _)).c0, (ex.keep0 ((Chg.refl [] _).alloc _)).c1, (ex.keep0 ((Chg.refl [] _).alloc _)).c2, (ey.keep0 ((Chg.refl [] _).alloc _)).c0, (ey.keep0 ((Chg.refl [] _).alloc _)).c1, (ey.keep0 ((Chg.refl [] _).alloc _)).c2⟩
                  clear hK K'
                  try simp only [Act.put, List.setIfInBounds_toArray, List.set_cons_zero, List.set_cons_succ]
                  have bP := Blk3.alloc wq22 (.bool false) (.string ⟨#[]⟩) (.string ⟨#[]⟩) 38
                  have c9 : Chg [] wq22 (wq22.alloc (.cells #[.bool false, .string ⟨#[]⟩, .string ⟨#[]⟩] 38)) := (Chg.refl _ _).alloc _
                  have laP : _ ≤ wq22.heap.size := hcz.size
                  have lxP : _ < wq22.heap.size := ex.lt
                  have lRP : _ < wq22.heap.size := bR.lt
                  replace ex := ex.keep0 c9
                  replace ey := ey.keep0 c9
                  replace bR := bR.keep0 c9
                  replace hcz := hcz.then c9
                  clear c9
                  obtain ⟨wq27, HWwq27⟩ := name_it (wq22.alloc (.cells #[.bool false, .string ⟨#[]⟩, .string ⟨#[]⟩] 38))
                  obtain ⟨gP, HGgP⟩ := name_it wq22.heap.size
                  rw [HWwq27.out] at ex ey bR bP hcz hHeld ⊢
                  rw [HGgP.out] at bP laP lxP lRP ⊢
                  refine wpAnyH_ready (rs := [19]) (by kernel_rfl) (by simp) ?_
                  refine AllReadyH.cons (o := _) rfl (fun K' hK => ?_) AllReadyH.nil
                  go_simp
                  refine (SubtractN y zf2 (ratOf y) (flo (ratOf y)) 250 (250 + 1) _ NY.out HF2.out.num (by omega)).mono ?_
                  rintro e9 wk28 ⟨zy, rfl, hzy, c6⟩
                  rw [HQY.out] at hzy
                  have HY := Lib.hid hzy
                  clear hzy
                  replace ex := ex.keep0 c6
                  replace ey := ey.keep0 c6
                  replace bR := bR.keep0 c6
                  replace bP := bP.keep0 c6
                  replace hcz := hcz.then c6
                  clear c6
                  go_wp2_with fail
                  refine hK.out _ _ ?_ (fun hHeld => ?_)
                  · exact ⟨ex.c0, ex.c1, ex.c2, ey.c0, ey.c1, ey.c2⟩
                  clear hK K'
                  try simp only [Act.put, List.setIfInBounds_toArray, List.set_cons_zero, List.set_cons_succ]
                  refine wpAnyH_ready (rs := [22]) (by kernel_rfl) (by simp) ?_
                  refine AllReadyH.cons (o := _) rfl (fun K' hK => ?_) AllReadyH.nil
                  have bPc0 := bP.c0
                  have bPc1 := bP.c1
                  have bPc2 := bP.c2
                  have bPf0 := bP.f0
                  have bPf1 := bP.f1
                  have bPf2 := bP.f2
                  have bPl := bP.lt
                  go_simp
                  refine hK.out _ _ ?_ (fun hHeld => ?_)
                  · exact ⟨(ex.st2 (by omega) _ _ _).c0, (ex.st2 (by omega) _ _ _).c1, (ex.st2 (by omega) _ _ _).c2, (ey.st2 (by omega) _ _ _).c0, (ey.st2 (by omega) _ _ _).c1, (ey.st2 (by omega) _ _ _).c2⟩
                  clear hK K'
                  try simp only [Act.put, List.setIfInBounds_toArray, List.set_cons_zero, List.set_cons_succ]
                  clear bPc0 bPc1 bPc2 bPf0 bPf1 bPf2
                  replace ex := ex.st2 (k := gP) (by omega) (.bool zx.neg) (.string zx.num) (.string zx.den)
                  replace ey := ey.st2 (k := gP) (by omega) (.bool zx.neg) (.string zx.num) (.string zx.den)
                  replace bR := bR.st2 (k := gP) (by omega) (.bool zx.neg) (.string zx.num) (.string zx.den)
                  replace bP := bP.store (.bool zx.neg) (.string zx.num) (.string zx.den)
                  replace hcz := hcz.store3 (.inr laP) (.bool zx.neg) (.string zx.num) (.string zx.den)
                  clear bPl
                  obtain ⟨ws29, HWws29⟩ := name_it (((wk28.setCell ⟨gP, 0, none⟩ (.bool zx.neg)).setCell ⟨gP, 1, none⟩ (.string zx.num)).setCell ⟨gP, 2, none⟩ (.string zx.den))
                  rw [HWws29.out] at ex ey bR bP hcz hHeld ⊢
                  refine wpAnyH_ready (rs := [23]) (by kernel_rfl) (by simp) ?_
                  refine AllReadyH.cons (o := _) rfl (fun K' hK => ?_) AllReadyH.nil
                  have bRc0 := bR.c0
                  have bRc1 := bR.c1
                  have bRc2 := bR.c2
                  have bRf0 := bR.f0
                  have bRf1 := bR.f1
                  have bRf2 := bR.f2
                  have bRl := bR.lt
                  go_simp
                  refine hK.out _ _ ?_ (fun hHeld => ?_)
                  · exact ⟨(ex.st2 (by omega) _ _ _).c0, (ex.st2 (by omega) _ _ _).c1, (ex.st2 (by omega) _ _ _).c2, (ey.st2 (by omega) _ _ _).c0, (ey.st2 (by omega) _ _ _).c1, (ey.st2 (by omega) _ _ _).c2⟩
                  clear hK K'
                  try simp only [Act.put, List.setIfInBounds_toArray, List.set_cons_zero, List.set_cons_succ]
                  clear bRc0 bRc1 bRc2 bRf0 bRf1 bRf2
                  replace ex := ex.st2 (k := gR) (by omega) (.bool zy.neg) (.string zy.num) (.string zy.den)
                  replace ey := ey.st2 (k := gR) (by omega) (.bool zy.neg) (.string zy.num) (.string zy.den)
                  replace bR := bR.store (.bool zy.neg) (.string zy.num) (.string zy.den)
                  replace bP := bP.st2 (k := gR) (by omega) (.bool zy.neg) (.string zy.num) (.string zy.den)
                  replace hcz := hcz.store3 (.inr laR) (.bool zy.neg) (.string zy.num) (.string zy.den)
                  clear bRl
                  obtain ⟨ws30, HWws30⟩ := name_it (((ws29.setCell ⟨gR, 0, none⟩ (.bool zy.neg)).setCell ⟨gR, 1, none⟩ (.string zy.num)).setCell ⟨gR, 2, none⟩ (.string zy.den))
                  rw [HWws30.out] at ex ey bR bP hcz hHeld ⊢
                  refine wpAnyH_done (by kernel_rfl) ?_ _
                  go_wp2_with fail
                  go_meet
                  exact ⟨⟨_, _, zx, zy, rfl, rfl, HX.out, HY.out, bP, bR⟩, hcz⟩
                refine AllReadyH.cons (o := _) rfl (fun K' hK => ?_) ?_
                · go_simp
                  refine hK.out _ _ ?_ (fun hHeld => ?_)
                  · exact ⟨(ex.keep0 ((Chg.refl [] _).alloc _)).c0, (ex.keep0 ((Chg.refl [] _).alloc _)).c1, (ex.keep0 ((Chg.refl [] _).alloc _)).c2, (ey.keep0 ((Chg.refl [] _).alloc _)).c0, (ey.keep0 ((Chg.refl [] _).alloc _)).c1, (ey.keep0 ((Chg.refl [] _).alloc _)).c2⟩
                  clear hK K'
                  try simp only [Act.put, List.setIfInBounds_toArray, List.set_cons_zero, List.set_cons_succ]
                  have bP := Blk3.alloc wk2 (.bool false) (.string ⟨#[]⟩) (.string ⟨#[]⟩) 38
                  have c9 : Chg [] wk2 (wk2.alloc (.cells #[.bool false, .string ⟨#[]⟩, .string ⟨#[]⟩] 38)) := (Chg.refl _ _).alloc _
                  have laP : _ ≤ wk2.heap.size := hcz.size
                  have lxP : _ < wk2.heap.size := ex.lt
                  replace ex := ex.keep0 c9
                  replace ey := ey.keep0 c9
                  replace hcz := hcz.then c9
                  clear c9
                  obtain ⟨wq31, HWwq31⟩ := name_it (wk2.alloc (.cells #[.bool false, .string ⟨#[]⟩, .string ⟨#[]⟩] 38))
                  obtain ⟨gP, HGgP⟩ := name_it wk2.heap.size
                  rw [HWwq31.out] at ex ey bP hcz hHeld ⊢
                  rw [HGgP.out] at bP laP lxP ⊢
                  refine wpAnyH_ready (rs := [18, 21]) (by kernel_rfl) (by simp) ?_
                  refine AllReadyH.cons (o := _) rfl (fun K' hK => ?_) ?_
                  · go_simp
                    refine (FloorN y (ratOf y) 250 _ NY.out (by omega)).mono ?_
                    rintro e9 wk32 ⟨zf2, rfl, hzf2, c6⟩
                    have HF2 := Lib.hid hzf2
                    clear hzf2
                    replace ex := ex.keep0 c6
                    replace ey := ey.keep0 c6
                    replace bP := bP.keep0 c6
                    replace hcz := hcz.then c6
                    clear c6
                    go_wp2_with fail
                    refine hK.out _ _ ?_ (fun hHeld => ?_)
                    · exact ⟨ex.c0, ex.c1, ex.c2, ey.c0, ey.c1, ey.c2⟩
                    clear hK K'
                    try simp only [Act.put, List.setIfInBounds_toArray, List.set_cons_zero, List.set_cons_succ]
                    refine wpAnyH_ready (rs := [19, 21]) (by kernel_rfl) (by simp) ?_
                    refine AllReadyH.cons (o := _) rfl (fun K' hK => ?_) ?_
                    · go_simp
                      refine (SubtractN y zf2 (ratOf y) (flo (ratOf y)) 250 (250 + 1) _ NY.out HF2.out.num (by omega)).mono ?_
                      rintro e9 wk33 ⟨zy, rfl, hzy, c6⟩
                      rw [HQY.out] at hzy
                      have HY := Lib.hid hzy
                      clear hzy
                      replace ex := ex.keep0 c6
                      replace ey := ey.keep0 c6
                      replace bP := bP.keep0 c6
                      replace hcz := hcz.then c6
                      clear c6
                      go_wp2_with fail
                      refine hK.out _ _ ?_ (fun hHeld => ?_)
                      · exact ⟨ex.c0, ex.c1, ex.c2, ey.c0, ey.c1, ey.c2⟩
                      clear hK K'
                      try simp only [Act.put, List.setIfInBounds_toArray, List.set_cons_zero, List.set_cons_succ]
                      refine wpAnyH_ready (rs := [21]) (by kernel_rfl) (by simp) ?_
                      refine AllReadyH.cons (o := _) rfl (fun K' hK => ?_) AllReadyH.nil
                      go_simp
                      refine hK.out _ _ ?_ (fun hHeld => ?_)
                      · exact ⟨(ex.keep0 ((Chg.refl [] _).alloc _)).c0, (ex.keep0 ((Chg.refl [] _).alloc _)).c1, (ex.keep0 ((Chg.refl [] _).alloc _)).c2, (ey.keep0 ((Chg.refl [] _).alloc _)).c0, (ey.keep0 ((Chg.refl [] _).alloc _)).c1, (ey.keep0 ((Chg.refl [] _).alloc _)).c2⟩
                      clear hK K'
                      try simp only [Act.put, List.setIfInBounds_toArray, List.set_cons_zero, List.set_cons_succ]
                      have bR := Blk3.alloc wk33 (.bool false) (.string ⟨#[]⟩) (.string ⟨#[]⟩) 38
                      have c9 : Chg [] wk33 (wk33.alloc (.cells #[.bool false, .string ⟨#[]⟩, .string ⟨#[]⟩] 38)) := (Chg.refl _ _).alloc _
                      have laR : _ ≤ wk33.heap.size := hcz.size
                      have lxR : _ < wk33.heap.size := ex.lt
                      have lPR : _ < wk33.heap.size := bP.lt
                      replace ex := ex.keep0 c9
                      replace ey := ey.keep0 c9
                      replace bP := bP.keep0 c9
                      replace hcz := hcz.then c9
                      clear c9
                      obtain ⟨wq34, HWwq34⟩ := name_it (wk33.alloc (.cells #[.bool false, .string ⟨#[]⟩, .string ⟨#[]⟩] 38))
                      obtain ⟨gR, HGgR⟩ := name_it wk33.heap.size
                      rw [HWwq34.out] at ex ey bP bR hcz hHeld ⊢
                      rw [HGgR.out] at bR laR lxR lPR ⊢
                      refine wpAnyH_ready (rs := [22]) (by kernel_rfl) (by simp) ?_
                      refine AllReadyH.cons (o := _) rfl (fun K' hK => ?_) AllReadyH.nil
                      have bPc0 := bP.c0
                      have bPc1 := bP.c1
                      have bPc2 := bP.c2
                      have bPf0 := bP.f0
                      have bPf1 := bP.f1
                      have bPf2 := bP.f2
                      have bPl := bP.lt
                      go_simp
                      refine hK.out _ _ ?_ (fun hHeld => ?_)
                      · exact ⟨(ex.st2 (by omega) _ _ _).c0, (ex.st2 (by omega) _ _ _).c1, (ex.st2 (by omega) _ _ _).c2, (ey.st2 (by omega) _ _ _).c0, (ey.st2 (by omega) _ _ _).c1, (ey.st2 (by omega) _ _ _).c2⟩
                      clear hK K'
                      try simp only [Act.put, List.setIfInBounds_toArray, List.set_cons_zero, List.set_cons_succ]
                      clear bPc0 bPc1 bPc2 bPf0 bPf1 bPf2
                      replace ex := ex.st2 (k := gP) (by omega) (.bool zx.neg) (.string zx.num) (.string zx.den)
                      replace ey := ey.st2 (k := gP) (by omega) (.bool zx.neg) (.string zx.num) (.string zx.den)
                      replace bP := bP.store (.bool zx.neg) (.string zx.num) (.string zx.den)
                      replace bR := bR.st2 (k := gP) (by omega) (.bool zx.neg) (.string zx.num) (.string zx.den)
                      replace hcz := hcz.store3 (.inr laP) (.bool zx.neg) (.string zx.num) (.string zx.den)
                      clear bPl
                      obtain ⟨ws35, HWws35⟩ := name_it (((wq34.setCell ⟨gP, 0, none⟩ (.bool zx.neg)).setCell ⟨gP, 1, none⟩ (.string zx.num)).setCell ⟨gP, 2, none⟩ (.string zx.den))
                      rw [HWws35.out] at ex ey bP bR hcz hHeld ⊢
                      refine wpAnyH_ready (rs := [23]) (by kernel_rfl) (by simp) ?_
                      refine AllReadyH.cons (o := _) rfl (fun K' hK => ?_) AllReadyH.nil
                      have bRc0 := bR.c0
                      have bRc1 := bR.c1
                      have bRc2 := bR.c2
                      have bRf0 := bR.f0
                      have bRf1 := bR.f1
                      have bRf2 := bR.f2
                      have bRl := bR.lt
                      go_simp
                      refine hK.out _ _ ?_ (fun hHeld => ?_)
                      · exact ⟨(ex.st2 (by omega) _ _ _).c0, (ex.st2 (by omega) _ _ _).c1, (ex.st2 (by omega) _ _ _).c2, (ey.st2 (by omega) _ _ _).c0, (ey.st2 (by omega) _ _ _).c1, (ey.st2 (by omega) _ _ _).c2⟩
                      clear hK K'
                      try simp only [Act.put, List.setIfInBounds_toArray, List.set_cons_zero, List.set_cons_succ]
                      clear bRc0 bRc1 bRc2 bRf0 bRf1 bRf2
                      replace ex := ex.st2 (k := gR) (by omega) (.bool zy.neg) (.string zy.num) (.string zy.den)
                      replace ey := ey.st2 (k := gR) (by omega) (.bool zy.neg) (.string zy.num) (.string zy.den)
                      replace bP := bP.st2 (k := gR) (by omega) (.bool zy.neg) (.string zy.num) (.string zy.den)
                      replace bR := bR.store (.bool zy.neg) (.string zy.num) (.string zy.den)
                      replace hcz := hcz.store3 (.inr laR) (.bool zy.neg) (.string zy.num) (.string zy.den)
                      clear bRl
                      obtain ⟨ws36, HWws36⟩ := name_it (((ws35.setCell ⟨gR, 0, none⟩ (.bool zy.neg)).setCell ⟨gR, 1, none⟩ (.string zy.num)).setCell ⟨gR, 2, none⟩ (.string zy.den))
                      rw [HWws36.out] at ex ey bP bR hcz hHeld ⊢
                      refine wpAnyH_done (by kernel_rfl) ?_ _
                      go_wp2_with fail
                      go_meet
                      exact ⟨⟨_, _, zx, zy, rfl, rfl, HX.out, HY.out, bP, bR⟩, hcz⟩
                    refine AllReadyH.cons (o := _) rfl (fun K' hK => ?_) AllReadyH.nil
                    go_simp
                    refine hK.out _ _ ?_ (fun hHeld => ?_)
                    · exact ⟨(ex.keep0 ((Chg.refl [] _).alloc _)).c0, (ex.keep0 ((Chg.refl [] _).alloc _)).c1, (ex.keep0 ((Chg.refl [] _).alloc _)).c2, (ey.keep0 ((Chg.refl [] _).alloc _)).c0, (ey.keep0 ((Chg.refl [] _).alloc _)).c1, (ey.keep0 ((Chg.refl [] _).alloc _)).c2⟩
                    clear hK K'
                    try simp only [Act.put, List.setIfInBounds_toArray, List.set_cons_zero, List.set_cons_succ]
                    have bR := Blk3.alloc wk32 (.bool false) (.string ⟨#[]⟩) (.string ⟨#[]⟩) 38
                    have c9 : Chg [] wk32 (wk32.alloc (.cells #[.bool false, .string ⟨#[]⟩, .string ⟨#[]⟩] 38)) := (Chg.refl _ _).alloc _
                    have laR : _ ≤ wk32.heap.size := hcz.size
                    have lxR : _ < wk32.heap.size := ex.lt
                    have lPR : _ < wk32.heap.size := bP.lt
                    replace ex := ex.keep0 c9
                    replace ey := ey.keep0 c9
                    replace bP := bP.keep0 c9
                    replace hcz := hcz.then c9
                    clear c9
                    obtain ⟨wq37, HWwq37⟩ := name_it (wk32.alloc (.cells #[.bool false, .string ⟨#[]⟩, .string ⟨#[]⟩] 38))
                    obtain ⟨gR, HGgR⟩ := name_it wk32.heap.size
                    rw [HWwq37.out] at ex ey bP bR hcz hHeld ⊢
                    rw [HGgR.out] at bR laR lxR lPR ⊢
                    refine wpAnyH_ready (rs := [19]) (by kernel_rfl) (by simp) ?_
                    refine AllReadyH.cons (o := _) rfl (fun K' hK => ?_) AllReadyH.nil
                    go_simp
                    refine (SubtractN y zf2 (ratOf y) (flo (ratOf y)) 250 (250 + 1) _ NY.out HF2.out.num (by omega)).mono ?_
                    rintro e9 wk38 ⟨zy, rfl, hzy, c6⟩
                    rw [HQY.out] at hzy
                    have HY := Lib.hid hzy
                    clear hzy
                    replace ex := ex.keep0 c6
                    replace ey := ey.keep0 c6
                    replace bP := bP.keep0 c6
                    replace bR := bR.keep0 c6
                    replace hcz := hcz.then c6
                    clear c6
                    go_wp2_with fail
                    refine hK.out _ _ ?_ (fun hHeld => ?_)
                    · exact ⟨ex.c0, ex.c1, ex.c2, ey.c0, ey.c1, ey.c2⟩
                    clear hK K'
                    try simp only [Act.put, List.setIfInBounds_toArray, List.set_cons_zero, List.set_cons_succ]
                    refine wpAnyH_ready (rs := [22]) (by kernel_rfl) (by simp) ?_
                    refine AllReadyH.cons (o := _) rfl (fun K' hK => ?_) AllReadyH.nil
                    have bPc0 := bP.c0
                    have bPc1 := bP.c1
                    have bPc2 := bP.c2
                    have bPf0 := bP.f0
                    have bPf1 := bP.f1
                    have bPf2 := bP.f2
                    have bPl := bP.lt
                    go_simp
                    refine hK.out _ _ ?_ (fun hHeld => ?_)
                    · exact ⟨(ex.st2 (by omega) _ _ _).c0, (ex.st2 (by omega) _ _ _).c1, (ex.st2 (by omega) _ _ _).c2, (ey.st2 (by omega) _ _ _).c0, (ey.st2 (by omega) _ _ _).c1, (ey.st2 (by omega) _ _ _).c2⟩
                    clear hK K'
                    try simp only [Act.put, List.setIfInBounds_toArray, List.set_cons_zero, List.set_cons_succ]
                    clear bPc0 bPc1 bPc2 bPf0 bPf1 bPf2
                    replace ex := ex.st2 (k := gP) (by omega) (.bool zx.neg) (.string zx.num) (.string zx.den)
                    replace ey := ey.st2 (k := gP) (by omega) (.bool zx.neg) (.string zx.num) (.string zx.den)
                    replace bP := bP.store (.bool zx.neg) (.string zx.num) (.string zx.den)
                    replace bR := bR.st2 (k := gP) (by omega) (.bool zx.neg) (.string zx.num) (.string zx.den)
                    replace hcz := hcz.store3 (.inr laP) (.bool zx.neg) (.string zx.num) (.string zx.den)
                    clear bPl
                    obtain ⟨ws39, HWws39⟩ := name_it (((wk38.setCell ⟨gP, 0, none⟩ (.bool zx.neg)).setCell ⟨gP, 1, none⟩ (.string zx.num)).setCell ⟨gP, 2, none⟩ (.string zx.den))
                    rw [HWws39.out] at ex ey bP bR hcz hHeld ⊢
                    refine wpAnyH_ready (rs := [23]) (by kernel_rfl) (by simp) ?_
                    refine AllReadyH.cons (o := _) rfl (fun K' hK => ?_) AllReadyH.nil
                    have bRc0 := bR.c0
                    have bRc1 := bR.c1
                    have bRc2 := bR.c2
                    have bRf0 := bR.f0
                    have bRf1 := bR.f1
                    have bRf2 := bR.f2
                    have bRl := bR.lt
                    go_simp
                    refine hK.out _ _ ?_ (fun hHeld => ?_)
                    · exact ⟨(ex.st2 (by omega) _ _ _).c0, (ex.st2 (by omega) _ _ _).c1, (ex.st2 (by omega) _ _ _).c2, (ey.st2 (by omega) _ _ _).c0, (ey.st2 (by omega) _ _ _).c1, (ey.st2 (by omega) _ _ _).c2⟩
                    clear hK K'
                    try simp only [Act.put, List.setIfInBounds_toArray, List.set_cons_zero, List.set_cons_succ]
                    clear bRc0 bRc1 bRc2 bRf0 bRf1 bRf2
                    replace ex := ex.st2 (k := gR) (by omega) (.bool zy.neg) (.string zy.num) (.string zy.den)
                    replace ey := ey.st2 (k := gR) (by omega) (.bool zy.neg) (.string zy.num) (.string zy.den)
                    replace bP := bP.st2 (k := gR) (by omega) (.bool zy.neg) (.string zy.num) (.string zy.den)
                    replace bR := bR.store (.bool zy.neg) (.string zy.num) (.string zy.den)
                    replace hcz := hcz.store3 (.inr laR) (.bool zy.neg) (.string zy.num) (.string zy.den)
                    clear bRl
                    obtain ⟨ws40, HWws40⟩ := name_it (((ws39.setCell ⟨gR, 0, none⟩ (.bool zy.neg)).setCell ⟨gR, 1, none⟩ (.string zy.num)).setCell ⟨gR, 2, none⟩ (.string zy.den))
                    rw [HWws40.out] at ex ey bP bR hcz hHeld ⊢
                    refine wpAnyH_done (by kernel_rfl) ?_ _
                    go_wp2_with fail
                    go_meet
                    exact ⟨⟨_, _, zx, zy, rfl, rfl, HX.out, HY.out, bP, bR⟩, hcz⟩
                  refine AllReadyH.cons (o := _) rfl (fun K' hK => ?_) AllReadyH.nil
                  go_simp
                  refine hK.out _ _ ?_ (fun hHeld => ?_)
                  · exact ⟨(ex.keep0 ((Chg.refl [] _).alloc _)).c0, (ex.keep0 ((Chg.refl [] _).alloc _)).c1, (ex.keep0 ((Chg.refl [] _).alloc _)).c2, (ey.keep0 ((Chg.refl [] _).alloc _)).c0, (ey.keep0 ((Chg.refl [] _).alloc _)).c1, (ey.keep0 ((Chg.refl [] _).alloc _)).c2⟩
                  clear hK K'
                  try simp only [Act.put, List.setIfInBounds_toArray, List.set_cons_zero, List.set_cons_succ]
                  have bR := Blk3.alloc wq31 (.bool false) (.string ⟨#[]⟩) (.string ⟨#[]⟩) 38
                  have c9 : Chg [] wq31 (wq31.alloc (.cells #[.bool false, .string ⟨#[]⟩, .string ⟨#[]⟩] 38)) := (Chg.refl _ _).alloc _
                  have laR : _ ≤ wq31.heap.size := hcz.size
                  have lxR : _ < wq31.heap.size := ex.lt
                  have lPR : _ < wq31.heap.size := bP.lt
                  replace ex := ex.keep0 c9
                  replace ey := ey.keep0 c9
                  replace bP := bP.keep0 c9
                  replace hcz := hcz.then c9
                  clear c9
                  obtain ⟨wq41, HWwq41⟩ := name_it (wq31.alloc (.cells #[.bool false, .string ⟨#[]⟩, .string ⟨#[]⟩] 38))
                  obtain ⟨gR, HGgR⟩ := name_it wq31.heap.size
                  rw [HWwq41.out] at ex ey bP bR hcz hHeld ⊢
                  rw [HGgR.out] at bR laR lxR lPR ⊢
                  refine wpAnyH_ready (rs := [18]) (by kernel_rfl) (by simp) ?_
                  refine AllReadyH.cons (o := _) rfl (fun K' hK => ?_) AllReadyH.nil
                  go_simp
                  refine (FloorN y (ratOf y) 250 _ NY.out (by omega)).mono ?_
                  rintro e9 wk42 ⟨zf2, rfl, hzf2, c6⟩
                  have HF2 := Lib.hid hzf2
                  clear hzf2
                  replace ex := ex.keep0 c6
                  replace ey := ey.keep0 c6
                  replace bP := bP.keep0 c6
                  replace bR := bR.keep0 c6
                  replace hcz := hcz.then c6
                  clear c6
                  go_wp2_with fail
                  refine hK.out _ _ ?_ (fun hHeld => ?_)
                  · exact ⟨ex.c0, ex.c1, ex.c2, ey.c0, ey.c1, ey.c2⟩
                  clear hK K'
                  try simp only [Act.put, List.setIfInBounds_toArray, List.set_cons_zero, List.set_cons_succ]
                  refine wpAnyH_ready (rs := [19]) (by kernel_rfl) (by simp) ?_
                  refine AllReadyH.cons (o := _) rfl (fun K' hK => ?_) AllReadyH.nil
                  go_simp
                  refine (SubtractN y zf2 (ratOf y) (flo (ratOf y)) 250 (250 + 1) _ NY.out HF2.out.num (by omega)).mono ?_
                  rintro e9 wk43 ⟨zy, rfl, hzy, c6⟩
                  rw [HQY.out] at hzy
                  have HY := Lib.hid hzy
                  clear hzy
                  replace ex := ex.keep0 c6
                  replace ey := ey.keep0 c6
                  replace bP := bP.keep0 c6
                  replace bR := bR.keep0 c6
                  replace hcz := hcz.then c6
                  clear c6
                  go_wp2_with fail
                  refine hK.out _ _ ?_ (fun hHeld => ?_)
                  · exact ⟨ex.c0, ex.c1, ex.c2, ey.c0, ey.c1, ey.c2⟩
                  clear hK K'
                  try simp only [Act.put, List.setIfInBounds_toArray, List.set_cons_zero, List.set_cons_succ]
                  refine wpAnyH_ready (rs := [22]) (by kernel_rfl) (by simp) ?_
                  refine AllReadyH.cons (o := _) rfl (fun K' hK => ?_) AllReadyH.nil
                  have bPc0 := bP.c0
                  have bPc1 := bP.c1
                  have bPc2 := bP.c2
                  have bPf0 := bP.f0
                  have bPf1 := bP.f1
                  have bPf2 := bP.f2
                  have bPl := bP.lt
                  go_simp
                  refine hK.out _ _ ?_ (fun hHeld => ?_)
                  · exact ⟨(ex.st2 (by omega) _ _ _).c0, (ex.st2 (by omega) _ _ _).c1, (ex.st2 (by omega) _ _ _).c2, (ey.st2 (by omega) _ _ _).c0, (ey.st2 (by omega) _ _ _).c1, (ey.st2 (by omega) _ _ _).c2⟩
                  clear hK K'
                  try simp only [Act.put, List.setIfInBounds_toArray, List.set_cons_zero, List.set_cons_succ]
                  clear bPc0 bPc1 bPc2 bPf0 bPf1 bPf2
                  replace ex := ex.st2 (k := gP) (by omega) (.bool zx.neg) (.string zx.num) (.string zx.den)
                  replace ey := ey.st2 (k := gP) (by omega) (.bool zx.neg) (.string zx.num) (.string zx.den)
                  replace bP := bP.store (.bool zx.neg) (.string zx.num) (.string zx.den)
                  replace bR := bR.st2 (k := gP) (by omega) (.bool zx.neg) (.string zx.num) (.string zx.den)
                  replace hcz := hcz.store3 (.inr laP) (.bool zx.neg) (.string zx.num) (.string zx.den)
                  clear bPl
                  obtain ⟨ws44, HWws44⟩ := name_it (((wk43.setCell ⟨gP, 0, none⟩ (.bool zx.neg)).setCell ⟨gP, 1, none⟩ (.string zx.num)).setCell ⟨gP, 2, none⟩ (.string zx.den))
                  rw [HWws44.out] at ex ey bP bR hcz hHeld ⊢
                  refine wpAnyH_ready (rs := [23]) (by kernel_rfl) (by simp) ?_
                  refine AllReadyH.cons (o := _) rfl (fun K' hK => ?_) AllReadyH.nil
                  have bRc0 := bR.c0
                  have bRc1 := bR.c1
                  have bRc2 := bR.c2
                  have bRf0 := bR.f0
                  have bRf1 := bR.f1
                  have bRf2 := bR.f2
                  have bRl := bR.lt
                  go_simp
                  refine hK.out _ _ ?_ (fun hHeld => ?_)
                  · exact ⟨(ex.st2 (by omega) _ _ _).c0, (ex.st2 (by omega) _ _ _).c1, (ex.st2 (by omega) _ _ _).c2, (ey.st2 (by omega) _ _ _).c0, (ey.st2 (by omega) _ _ _).c1, (ey.st2 (by omega) _ _ _).c2⟩
                  clear hK K'
                  try simp only [Act.put, List.setIfInBounds_toArray, List.set_cons_zero, List.set_cons_succ]
                  clear bRc0 bRc1 bRc2 bRf0 bRf1 bRf2
                  replace ex := ex.st2 (k := gR) (by omega) (.bool zy.neg) (.string zy.num) (.string zy.den)
                  replace ey := ey.st2 (k := gR) (by omega) (.bool zy.neg) (.string zy.num) (.string zy.den)
                  replace bP := bP.st2 (k := gR) (by omega) (.bool zy.neg) (.string zy.num) (.string zy.den)
                  replace bR := bR.store (.bool zy.neg) (.string zy.num) (.string zy.den)
                  replace hcz := hcz.store3 (.inr laR) (.bool zy.neg) (.string zy.num) (.string zy.den)
                  clear bRl
                  obtain ⟨ws45, HWws45⟩ := name_it (((ws44.setCell ⟨gR, 0, none⟩ (.bool zy.neg)).setCell ⟨gR, 1, none⟩ (.string zy.num)).setCell ⟨gR, 2, none⟩ (.string zy.den))
                  rw [HWws45.out] at ex ey bP bR hcz hHeld ⊢
                  refine wpAnyH_done (by kernel_rfl) ?_ _
                  go_wp2_with fail
                  go_meet
                  exact ⟨⟨_, _, zx, zy, rfl, rfl, HX.out, HY.out, bP, bR⟩, hcz⟩
                refine AllReadyH.cons (o := _) rfl (fun K' hK => ?_) AllReadyH.nil
                go_simp
                refine hK.out _ _ ?_ (fun hHeld => ?_)
                · exact ⟨(ex.keep0 ((Chg.refl [] _).alloc _)).c0, (ex.keep0 ((Chg.refl [] _).alloc _)).c1, (ex.keep0 ((Chg.refl [] _).alloc _)).c2, (ey.keep0 ((Chg.refl [] _).alloc _)).c0, (ey.keep0 ((Chg.refl [] _).alloc _)).c1, (ey.keep0 ((Chg.refl [] _).alloc _)).c2⟩
                clear hK K'
                try simp only [Act.put, List.setIfInBounds_toArray, List.set_cons_zero, List.set_cons_succ]
                have bR := Blk3.alloc wk2 (.bool false) (.string ⟨#[]⟩) (.string ⟨#[]⟩) 38
                have c9 : Chg [] wk2 (wk2.alloc (.cells #[.bool false, .string ⟨#[]⟩, .string ⟨#[]⟩] 38)) := (Chg.refl _ _).alloc _
                have laR : _ ≤ wk2.heap.size := hcz.size
                have lxR : _ < wk2.heap.size := ex.lt
                replace ex := ex.keep0 c9
                replace ey := ey.keep0 c9
                replace hcz := hcz.then c9
                clear c9
                obtain ⟨wq46, HWwq46⟩ := name_it (wk2.alloc (.cells #[.bool false, .string ⟨#[]⟩, .string ⟨#[]⟩] 38))
                obtain ⟨gR, HGgR⟩ := name_it wk2.heap.size
                rw [HWwq46.out] at ex ey bR hcz hHeld ⊢
                rw [HGgR.out] at bR laR lxR ⊢
                refine wpAnyH_ready (rs := [18, 20]) (by kernel_rfl) (by simp) ?_
                refine AllReadyH.cons (o := _) rfl (fun K' hK => ?_) ?_
                · go_simp
                  refine (FloorN y (ratOf y) 250 _ NY.out (by omega)).mono ?_
                  rintro e9 wk47 ⟨zf2, rfl, hzf2, c6⟩
                  have HF2 := Lib.hid hzf2
                  clear hzf2
                  replace ex := ex.keep0 c6
                  replace ey := ey.keep0 c6
                  replace bR := bR.keep0 c6
                  replace hcz := hcz.then c6
                  clear c6
                  go_wp2_with fail
                  refine hK.out _ _ ?_ (fun hHeld => ?_)
                  · exact ⟨ex.c0, ex.c1, ex.c2, ey.c0, ey.c1, ey.c2⟩
                  clear hK K'
                  try simp only [Act.put, List.setIfInBounds_toArray, List.set_cons_zero, List.set_cons_succ]
                  refine wpAnyH_ready (rs := [19, 20]) (by kernel_rfl) (by simp) ?_
                  refine AllReadyH.cons (o := _) rfl (fun K' hK => ?_) ?_
                  · go_simp
                    refine (SubtractN y zf2 (ratOf y) (flo (ratOf y)) 250 (250 + 1) _ NY.out HF2.out.num (by omega)).mono ?_
                    rintro e9 wk48 ⟨zy, rfl, hzy, c6⟩
                    rw [HQY.out] at hzy
                    have HY := Lib.hid hzy
                    clear hzy
                    replace ex := ex.keep0 c6
                    replace ey := ey.keep0 c6
                    replace bR := bR.keep0 c6
                    replace hcz := hcz.then c6
                    clear c6
                    go_wp2_with fail
                    refine hK.out _ _ ?_ (fun hHeld => ?_)
                    · exact ⟨ex.c0, ex.c1, ex.c2, ey.c0, ey.c1, ey.c2⟩
                    clear hK K'
                    try simp only [Act.put, List.setIfInBounds_toArray, List.set_cons_zero, List.set_cons_succ]
                    refine wpAnyH_ready (rs := [20]) (by kernel_rfl) (by simp) ?_
                    refine AllReadyH.cons (o := _) rfl (fun K' hK => ?_) AllReadyH.nil
                    go_simp
                    refine hK.out _ _ ?_ (fun hHeld => ?_)
                    · exact ⟨(ex.keep0 ((Chg.refl [] _).alloc _)).c0, (ex.keep0 ((Chg.refl [] _).alloc _)).c1, (ex.keep0 ((Chg.refl [] _).alloc _)).c2, (ey.keep0 ((Chg.refl [] _).alloc _)).c0, (ey.keep0 ((Chg.refl [] _).alloc _)).c1, (ey.keep0 ((Chg.refl [] _).alloc _)).c2⟩
                    clear hK K'
                    try simp only [Act.put, List.setIfInBounds_toArray, List.set_cons_zero, List.set_cons_succ]
                    have bP := Blk3.alloc wk48 (.bool false) (.string ⟨#[]⟩) (.string ⟨#[]⟩) 38
                    have c9 : Chg [] wk48 (wk48.alloc (.cells #[.bool false, .string ⟨#[]⟩, .string ⟨#[]⟩] 38)) := (Chg.refl _ _).alloc _
                    have laP : _ ≤ wk48.heap.size := hcz.size
                    have lxP : _ < wk48.heap.size := ex.lt
                    have lRP : _ < wk48.heap.size := bR.lt
                    replace ex := ex.keep0 c9
                    replace ey := ey.keep0 c9
                    replace bR := bR.keep0 c9
                    replace hcz := hcz.then c9
                    clear c9
                    obtain ⟨wq49, HWwq49⟩ := name_it (wk48.alloc (.cells #[.bool false, .string ⟨#[]⟩, .string ⟨#[]⟩] 38))
                    obtain ⟨gP, HGgP⟩ := name_it wk48.heap.size
                    rw [HWwq49.out] at ex ey bR bP hcz hHeld ⊢
                    rw [HGgP.out] at bP laP lxP lRP ⊢
                    refine wpAnyH_ready (rs := [22]) (by kernel_rfl) (by simp) ?_
                    refine AllReadyH.cons (o := _) rfl (fun K' hK => ?_) AllReadyH.nil
                    have bPc0 := bP.c0
                    have bPc1 := bP.c1
                    have bPc2 := bP.c2
                    have bPf0 := bP.f0
                    have bPf1 := bP.f1
                    have bPf2 := bP.f2
                    have bPl := bP.lt
                    go_simp
                    refine hK.out _ _ ?_ (fun hHeld => ?_)
                    · exact ⟨(ex.st2 (by omega) _ _ _).c0, (ex.st2 (by omega) _ _ _).c1, (ex.st2 (by omega) _ _ _).c2, (ey.st2 (by omega) _ _ _).c0, (ey.st2 (by omega) _ _ _).c1, (ey.st2 (by omega) _ _ _).c2⟩
                    clear hK K'
                    try simp only [Act.put, List.setIfInBounds_toArray, List.set_cons_zero, List.set_cons_succ]
                    clear bPc0 bPc1 bPc2 bPf0 bPf1 bPf2
                    replace ex := ex.st2 (k := gP) (by omega) (.bool zx.neg) (.string zx.num) (.string zx.den)
                    replace ey := ey.st2 (k := gP) (by omega) (.bool zx.neg) (.string zx.num) (.string zx.den)
                    replace bR := bR.st2 (k := gP) (by omega) (.bool zx.neg) (.string zx.num) (.string zx.den)
                    replace bP := bP.store (.bool zx.neg) (.string zx.num) (.string zx.den)
                    replace hcz := hcz.store3 (.inr laP) (.bool zx.neg) (.string zx.num) (.string zx.den)
                    clear bPl
                    obtain ⟨ws50, HWws50⟩ := name_it (((wq49.setCell ⟨gP, 0, none⟩ (.bool zx.neg)).setCell ⟨gP, 1, none⟩ (.string zx.num)).setCell ⟨gP, 2, none⟩ (.string zx.den))
                    rw [HWws50.out] at ex ey bR bP hcz hHeld ⊢
                    refine wpAnyH_ready (rs := [23]) (by kernel_rfl) (by simp) ?_
                    refine AllReadyH.cons (o := _) rfl (fun K' hK => ?_) AllReadyH.nil
                    have bRc0 := bR.c0
                    have bRc1 := bR.c1
                    have bRc2 := bR.c2
                    have bRf0 := bR.f0
                    have bRf1 := bR.f1
                    have bRf2 := bR.f2
                    have bRl := bR.lt
                    go_simp
                    refine hK.out _ _ ?_ (fun hHeld => ?_)
                    · exact ⟨(ex.st2 (by omega) _ _ _).c0, (ex.st2 (by omega) _ _ _).c1, (ex.st2 (by omega) _ _ _).c2, (ey.st2 (by omega) _ _ _).c0, (ey.st2 (by omega) _ _ _).c1, (ey.st2 (by omega) _ _ _).c2⟩
                    clear hK K'
                    try simp only [Act.put, List.setIfInBounds_toArray, List.set_cons_zero, List.set_cons_succ]
                    clear bRc0 bRc1 bRc2 bRf0 bRf1 bRf2
                    replace ex := ex.st2 (k := gR) (by omega) (.bool zy.neg) (.string zy.num) (.string zy.den)
                    replace ey := ey.st2 (k := gR) (by omega) (.bool zy.neg) (.string zy.num) (.string zy.den)
                    replace bR := bR.store (.bool zy.neg) (.string zy.num) (.string zy.den)
                    replace bP := bP.st2 (k := gR) (by omega) (.bool zy.neg) (.string zy.num) (.string zy.den)
                    replace hcz := hcz.store3 (.inr laR) (.bool zy.neg) (.string zy.num) (.string zy.den)
                    clear bRl
                    obtain ⟨ws51, HWws51⟩ := name_it (((ws50.setCell ⟨gR, 0, none⟩ (.bool zy.neg)).setCell ⟨gR, 1, none⟩ (.string zy.num)).setCell ⟨gR, 2, none⟩ (.string zy.den))
                    rw [HWws51.out] at ex ey bR bP hcz hHeld ⊢
                    refine wpAnyH_done (by kernel_rfl) ?_ _
                    go_wp2_with fail
                    go_meet
                    exact ⟨⟨_, _, zx, zy, rfl, rfl, HX.out, HY.out, bP, bR⟩, hcz⟩
                  refine AllReadyH.cons (o := _) rfl (fun K' hK => ?_) AllReadyH.nil
                  go_simp
                  refine hK.out _ _ ?_ (fun hHeld => ?_)
                  · exact ⟨(ex.keep0 ((Chg.refl [] _).alloc _)).c0, (ex.keep0 ((Chg.refl [] _).alloc _)).c1, (ex.keep0 ((Chg.refl [] _).alloc _)).c2, (ey.keep0 ((Chg.refl [] _).alloc _)).c0, (ey.keep0 ((Chg.refl [] _).alloc _)).c1, (ey.keep0 ((Chg.refl [] _).alloc _)).c2⟩
                  clear hK K'
                  try simp only [Act.put, List.setIfInBounds_toArray, List.set_cons_zero, List.set_cons_succ]
                  have bP := Blk3.alloc wk47 (.bool false) (.string ⟨#[]⟩) (.string ⟨#[]⟩) 38
                  have c9 : Chg [] wk47 (wk47.alloc (.cells #[.bool false, .string ⟨#[]⟩, .string ⟨#[]⟩] 38)) := (Chg.refl _ _).alloc _
                  have laP : _ ≤ wk47.heap.size := hcz.size
                  have lxP : _ < wk47.heap.size := ex.lt
                  have lRP : _ < wk47.heap.size := bR.lt
                  replace ex := ex.keep0 c9
                  replace ey := ey.keep0 c9
                  replace bR := bR.keep0 c9
                  replace hcz := hcz.then c9
                  clear c9
                  obtain ⟨wq52, HWwq52⟩ := name_it (wk47.alloc (.cells #[.bool false, .string ⟨#[]⟩, .string ⟨#[]⟩] 38))
                  obtain ⟨gP, HGgP⟩ := name_it wk47.heap.size
                  rw [HWwq52.out] at ex ey bR bP hcz hHeld ⊢
                  rw [HGgP.out] at bP laP lxP lRP ⊢
                  refine wpAnyH_ready (rs := [19]) (by kernel_rfl) (by simp) ?_
                  refine AllReadyH.cons (o := _) rfl (fun K' hK => ?_) AllReadyH.nil
                  go_simp
                  refine (SubtractN y zf2 (ratOf y) (flo (ratOf y)) 250 (250 + 1) _ NY.out HF2.out.num (by omega)).mono ?_
                  rintro e9 wk53 ⟨zy, rfl, hzy, c6⟩
                  rw [HQY.out] at hzy
                  have HY := Lib.hid hzy
                  clear hzy
                  replace ex := ex.keep0 c6
                  replace ey := ey.keep0 c6
                  replace bR := bR.keep0 c6
                  replace bP := bP.keep0 c6
                  replace hcz := hcz.then c6
                  clear c6
                  go_wp2_with fail
                  refine hK.out _ _ ?_ (fun hHeld => ?_)
                  · exact ⟨ex.c0, ex.c1, ex.c2, ey.c0, ey.c1, ey.c2⟩
                  clear hK K'
                  try simp only [Act.put, List.setIfInBounds_toArray, List.set_cons_zero, List.set_cons_succ]
                  refine wpAnyH_ready (rs := [22]) (by kernel_rfl) (by simp) ?_
                  refine AllReadyH.cons (o := _) rfl (fun K' hK => ?_) AllReadyH.nil
                  have bPc0 := bP.c0
                  have bPc1 := bP.c1
                  have bPc2 := bP.c2
                  have bPf0 := bP.f0
                  have bPf1 := bP.f1
                  have bPf2 := bP.f2
                  have bPl := bP.lt
                  go_simp
                  refine hK.out _ _ ?_ (fun hHeld => ?_)
                  · exact ⟨(ex.st2 (by omega) _ _ _).c0, (ex.st2 (by omega) _ _ _).c1, (ex.st2 (by omega) _ _ _).c2, (ey.st2 (by omega) _ _ _).c0, (ey.st2 (by omega) _ _ _).c1, (ey.st2 (by omega) _ _ _).c2⟩
                  clear hK K'
                  try simp only [Act.put, List.setIfInBounds_toArray, List.set_cons_zero, List.set_cons_succ]
                  clear bPc0 bPc1 bPc2 bPf0 bPf1 bPf2
                  replace ex := ex.st2 (k := gP) (by omega) (.bool zx.neg) (.string zx.num) (.string zx.den)
                  replace ey := ey.st2 (k := gP) (by omega) (.bool zx.neg) (.string zx.num) (.string zx.den)
                  replace bR := bR.st2 (k := gP) (by omega) (.bool zx.neg) (.string zx.num) (.string zx.den)
                  replace bP := bP.store (.bool zx.neg) (.string zx.num) (.string zx.den)
                  replace hcz := hcz.store3 (.inr laP) (.bool zx.neg) (.string zx.num) (.string zx.den)
                  clear bPl
                  obtain ⟨ws54, HWws54⟩ := name_it (((wk53.setCell ⟨gP, 0, none⟩ (.bool zx.neg)).setCell ⟨gP, 1, none⟩ (.string zx.num)).setCell ⟨gP, 2, none⟩ (.string zx.den))
                  rw [HWws54.out] at ex ey bR bP hcz hHeld ⊢
                  refine wpAnyH_ready (rs := [23]) (by kernel_rfl) (by simp) ?_
                  refine AllReadyH.cons (o := _) rfl (fun K' hK => ?_) AllReadyH.nil
                  have bRc0 := bR.c0
                  have bRc1 := bR.c1
                  have bRc2 := bR.c2
                  have bRf0 := bR.f0
                  have bRf1 := bR.f1
                  have bRf2 := bR.f2
                  have bRl := bR.lt
                  go_simp
                  refine hK.out _ _ ?_ (fun hHeld => ?_)
                  · exact ⟨(ex.st2 (by omega) _ _ _).c0, (ex.st2 (by omega) _ _ _).c1, (ex.st2 (by omega) _ _ _).c2, (ey.st2 (by omega) _ _ _).c0, (ey.st2 (by omega) _ _ _).c1, (ey.st2 (by omega) _ _ _).c2⟩
                  clear hK K'
                  try simp only [Act.put, List.setIfInBounds_toArray, List.set_cons_zero, List.set_cons_succ]
                  clear bRc0 bRc1 bRc2 bRf0 bRf1 bRf2
                  replace ex := ex.st2 (k := gR) (by omega) (.bool zy.neg) (.string zy.num) (.string zy.den)
                  replace ey := ey.st2 (k := gR) (by omega) (.bool zy.neg) (.string zy.num) (.string zy.den)
                  replace bR := bR.store (.bool zy.neg) (.string zy.num) (.string zy.den)
                  replace bP := bP.st2 (k := gR) (by omega) (.bool zy.neg) (.string zy.num) (.string zy.den)
                  replace hcz := hcz.store3 (.inr laR) (.bool zy.neg) (.string zy.num) (.string zy.den)
                  clear bRl
                  obtain ⟨ws55, HWws55⟩ := name_it (((ws54.setCell ⟨gR, 0, none⟩ (.bool zy.neg)).setCell ⟨gR, 1, none⟩ (.string zy.num)).setCell ⟨gR, 2, none⟩ (.string zy.den))
                  rw [HWws55.out] at ex ey bR bP hcz hHeld ⊢
                  refine wpAnyH_done (by kernel_rfl) ?_ _
                  go_wp2_with fail
                  go_meet
                  exact ⟨⟨_, _, zx, zy, rfl, rfl, HX.out, HY.out, bP, bR⟩, hcz⟩
                refine AllReadyH.cons (o := _) rfl (fun K' hK => ?_) AllReadyH.nil
                go_simp
                refine hK.out _ _ ?_ (fun hHeld => ?_)
                · exact ⟨(ex.keep0 ((Chg.refl [] _).alloc _)).c0, (ex.keep0 ((Chg.refl [] _).alloc _)).c1, (ex.keep0 ((Chg.refl [] _).alloc _)).c2, (ey.keep0 ((Chg.refl [] _).alloc _)).c0, (ey.keep0 ((Chg.refl [] _).alloc _)).c1, (ey.keep0 ((Chg.refl [] _).alloc _)).c2⟩
                clear hK K'
                try simp only [Act.put, List.setIfInBounds_toArray, List.set_cons_zero, List.set_cons_succ]
                have bP := Blk3.alloc wq46 (.bool false) (.string ⟨#[]⟩) (.string ⟨#[]⟩) 38
                have c9 : Chg [] wq46 (wq46.alloc (.cells #[.bool false, .string ⟨#[]⟩, .string ⟨#[]⟩] 38)) := (Chg.refl _ _).alloc _
                have laP : _ ≤ wq46.heap.size := hcz.size
                have lxP : _ < wq46.heap.size := ex.lt
                have lRP : _ < wq46.heap.size := bR.lt
                replace ex := ex.keep0 c9
                replace ey := ey.keep0 c9
                replace bR := bR.keep0 c9
                replace hcz := hcz.then c9
                clear c9
                obtain ⟨wq56, HWwq56⟩ := name_it (wq46.alloc (.cells #[.bool false, .string ⟨#[]⟩, .string ⟨#[]⟩] 38))
                obtain ⟨gP, HGgP⟩ := name_it wq46.heap.size
                rw [HWwq56.out] at ex ey bR bP hcz hHeld ⊢
                rw [HGgP.out] at bP laP lxP lRP ⊢
                refine wpAnyH_ready (rs := [18]) (by kernel_rfl) (by simp) ?_
                refine AllReadyH.cons (o := _) rfl (fun K' hK => ?_) AllReadyH.nil
                go_simp
                refine (FloorN y (ratOf y) 250 _ NY.out (by omega)).mono ?_
                rintro e9 wk57 ⟨zf2, rfl, hzf2, c6⟩
                have HF2 := Lib.hid hzf2
                clear hzf2
                replace ex := ex.keep0 c6
                replace ey := ey.keep0 c6
                replace bR := bR.keep0 c6
                replace bP := bP.keep0 c6
                replace hcz := hcz.then c6
                clear c6
                go_wp2_with fail
                refine hK.out _ _ ?_ (fun hHeld => ?_)
                · exact ⟨ex.c0, ex.c1, ex.c2, ey.c0, ey.c1, ey.c2⟩
                clear hK K'
                try simp only [Act.put, List.setIfInBounds_toArray, List.set_cons_zero, List.set_cons_succ]
                refine wpAnyH_ready (rs := [19]) (by kernel_rfl) (by simp) ?_
                refine AllReadyH.cons (o := _) rfl (fun K' hK => ?_) AllReadyH.nil
                go_simp
                refine (SubtractN y zf2 (ratOf y) (flo (ratOf y)) 250 (250 + 1) _ NY.out HF2.out.num (by omega)).mono ?_
                rintro e9 wk58 ⟨zy, rfl, hzy, c6⟩
                rw [HQY.out] at hzy
                have HY := Lib.hid hzy
                clear hzy
                replace ex := ex.keep0 c6
                replace ey := ey.keep0 c6
                replace bR := bR.keep0 c6
                replace bP := bP.keep0 c6
                replace hcz := hcz.then c6
                clear c6
                go_wp2_with fail
                refine hK.out _ _ ?_ (fun hHeld => ?_)
                · exact ⟨ex.c0, ex.c1, ex.c2, ey.c0, ey.c1, ey.c2⟩
                clear hK K'
                try simp only [Act.put, List.setIfInBounds_toArray, List.set_cons_zero, List.set_cons_succ]
                refine wpAnyH_ready (rs := [22]) (by kernel_rfl) (by simp) ?_
                refine AllReadyH.cons (o := _) rfl (fun K' hK => ?_) AllReadyH.nil
                have bPc0 := bP.c0
                have bPc1 := bP.c1
                have bPc2 := bP.c2
                have bPf0 := bP.f0
                have bPf1 := bP.f1
                have bPf2 := bP.f2
                have bPl := bP.lt
                go_simp
                refine hK.out _ _ ?_ (fun hHeld => ?_)
                · exact ⟨(ex.st2 (by omega) _ _ _).c0, (ex.st2 (by omega) _ _ _).c1, (ex.st2 (by omega) _ _ _).c2, (ey.st2 (by omega) _ _ _).c0, (ey.st2 (by omega) _ _ _).c1, (ey.st2 (by omega) _ _ _).c2⟩
                clear hK K'
                try simp only [Act.put, List.setIfInBounds_toArray, List.set_cons_zero, List.set_cons_succ]
                clear bPc0 bPc1 bPc2 bPf0 bPf1 bPf2
                replace ex := ex.st2 (k := gP) (by omega) (.bool zx.neg) (.string zx.num) (.string zx.den)
                replace ey := ey.st2 (k := gP) (by omega) (.bool zx.neg) (.string zx.num) (.string zx.den)
                replace bR := bR.st2 (k := gP) (by omega) (.bool zx.neg) (.string zx.num) (.string zx.den)
                replace bP := bP.store (.bool zx.neg) (.string zx.num) (.string zx.den)
                replace hcz := hcz.store3 (.inr laP) (.bool zx.neg) (.string zx.num) (.string zx.den)
                clear bPl
                obtain ⟨ws59, HWws59⟩ := name_it (((wk58.setCell ⟨gP, 0, none⟩ (.bool zx.neg)).setCell ⟨gP, 1, none⟩ (.string zx.num)).setCell ⟨gP, 2, none⟩ (.string zx.den))
                rw [HWws59.out] at ex ey bR bP hcz hHeld ⊢
                refine wpAnyH_ready (rs := [23]) (by kernel_rfl) (by simp) ?_
                refine AllReadyH.cons (o := _) rfl (fun K' hK => ?_) AllReadyH.nil
                have bRc0 := bR.c0
                have bRc1 := bR.c1
                have bRc2 := bR.c2
                have bRf0 := bR.f0
                have bRf1 := bR.f1
                have bRf2 := bR.f2
                have bRl := bR.lt
                go_simp
                refine hK.out _ _ ?_ (fun hHeld => ?_)
                · exact ⟨(ex.st2 (by omega) _ _ _).c0, (ex.st2 (by omega) _ _ _).c1, (ex.st2 (by omega) _ _ _).c2, (ey.st2 (by omega) _ _ _).c0, (ey.st2 (by omega) _ _ _).c1, (ey.st2 (by omega) _ _ _).c2⟩
                clear hK K'
                try simp only [Act.put, List.setIfInBounds_toArray, List.set_cons_zero, List.set_cons_succ]
                clear bRc0 bRc1 bRc2 bRf0 bRf1 bRf2
                replace ex := ex.st2 (k := gR) (by omega) (.bool zy.neg) (.string zy.num) (.string zy.den)
                replace ey := ey.st2 (k := gR) (by omega) (.bool zy.neg) (.string zy.num) (.string zy.den)
                replace bR := bR.store (.bool zy.neg) (.string zy.num) (.string zy.den)
                replace bP := bP.st2 (k := gR) (by omega) (.bool zy.neg) (.string zy.num) (.string zy.den)
                replace hcz := hcz.store3 (.inr laR) (.bool zy.neg) (.string zy.num) (.string zy.den)
                clear bRl
                obtain ⟨ws60, HWws60⟩ := name_it (((ws59.setCell ⟨gR, 0, none⟩ (.bool zy.neg)).setCell ⟨gR, 1, none⟩ (.string zy.num)).setCell ⟨gR, 2, none⟩ (.string zy.den))
                rw [HWws60.out] at ex ey bR bP hcz hHeld ⊢
                refine wpAnyH_done (by kernel_rfl) ?_ _
                go_wp2_with fail
                go_meet
                exact ⟨⟨_, _, zx, zy, rfl, rfl, HX.out, HY.out, bP, bR⟩, hcz⟩
              refine AllReadyH.cons (o := _) rfl (fun K' hK => ?_) ?_
              · go_simp
                refine hK.out _ _ ?_ (fun hHeld => ?_)
                · exact ⟨(ex.keep0 ((Chg.refl [] _).alloc _)).c0, (ex.keep0 ((Chg.refl [] _).alloc _)).c1, (ex.keep0 ((Chg.refl [] _).alloc _)).c2, (ey.keep0 ((Chg.refl [] _).alloc _)).c0, (ey.keep0 ((Chg.refl [] _).alloc _)).c1, (ey.keep0 ((Chg.refl [] _).alloc _)).c2⟩
                clear hK K'
                try simp only [Act.put, List.setIfInBounds_toArray, List.set_cons_zero, List.set_cons_succ]
                have bP := Blk3.alloc wk1 (.bool false) (.string ⟨#[]⟩) (.string ⟨#[]⟩) 38
                have c9 : Chg [] wk1 (wk1.alloc (.cells #[.bool false, .string ⟨#[]⟩, .string ⟨#[]⟩] 38)) := (Chg.refl _ _).alloc _
                have laP : _ ≤ wk1.heap.size := hcz.size
                have lxP : _ < wk1.heap.size := ex.lt
                replace ex := ex.keep0 c9
                replace ey := ey.keep0 c9
                replace hcz := hcz.then c9
                clear c9
                obtain ⟨wq61, HWwq61⟩ := name_it (wk1.alloc (.cells #[.bool false, .string ⟨#[]⟩, .string ⟨#[]⟩] 38))
                obtain ⟨gP, HGgP⟩ := name_it wk1.heap.size
                rw [HWwq61.out] at ex ey bP hcz hHeld ⊢
                rw [HGgP.out] at bP laP lxP ⊢
                refine wpAnyH_ready (rs := [9, 21]) (by kernel_rfl) (by simp) ?_
                refine AllReadyH.cons (o := _) rfl (fun K' hK => ?_) ?_
                · go_simp
                  refine (SubtractN x zf1 (ratOf x) (flo (ratOf x)) 250 (250 + 1) _ NX.out HF1.out.num (by omega)).mono ?_
                  rintro e9 wk62 ⟨zx, rfl, hzx, c6⟩
                  rw [HQX.out] at hzx
                  have HX := Lib.hid hzx
                  clear hzx
                  replace ex := ex.keep0 c6
                  replace ey := ey.keep0 c6
                  replace bP := bP.keep0 c6
                  replace hcz := hcz.then c6
                  clear c6
                  go_wp2_with fail
                  refine hK.out _ _ ?_ (fun hHeld => ?_)
                  · exact ⟨ex.c0, ex.c1, ex.c2, ey.c0, ey.c1, ey.c2⟩
                  clear hK K'
                  try simp only [Act.put, List.setIfInBounds_toArray, List.set_cons_zero, List.set_cons_succ]
                  refine wpAnyH_ready (rs := [18, 21]) (by kernel_rfl) (by simp) ?_
                  refine AllReadyH.cons (o := _) rfl (fun K' hK => ?_) ?_
                  · go_simp
                    refine (FloorN y (ratOf y) 250 _ NY.out (by omega)).mono ?_
                    rintro e9 wk63 ⟨zf2, rfl, hzf2, c6⟩
                    have HF2 := Lib.hid hzf2
                    clear hzf2
                    replace ex := ex.keep0 c6
                    replace ey := ey.keep0 c6
                    replace bP := bP.keep0 c6
                    replace hcz := hcz.then c6
                    clear c6
                    go_wp2_with fail
                    refine hK.out _ _ ?_ (fun hHeld => ?_)
                    · exact ⟨ex.c0, ex.c1, ex.c2, ey.c0, ey.c1, ey.c2⟩
                    clear hK K'
                    try simp only [Act.put, List.setIfInBounds_toArray, List.set_cons_zero, List.set_cons_succ]
                    refine wpAnyH_ready (rs := [19, 21]) (by kernel_rfl) (by simp) ?_
                    refine AllReadyH.cons (o := _) rfl (fun K' hK => ?_) ?_
                    · go_simp
                      refine (SubtractN y zf2 (ratOf y) (flo (ratOf y)) 250 (250 + 1) _ NY.out HF2.out.num (by omega)).mono ?_
                      rintro e9 wk64 ⟨zy, rfl, hzy, c6⟩
                      rw [HQY.out] at hzy
                      have HY := Lib.hid hzy
                      clear hzy
                      replace ex := ex.keep0 c6
                      replace ey := ey.keep0 c6
                      replace bP := bP.keep0 c6
                      replace hcz := hcz.then c6
                      clear c6
                      go_wp2_with fail
                      refine hK.out _ _ ?_ (fun hHeld => ?_)
                      · exact ⟨ex.c0, ex.c1, ex.c2, ey.c0, ey.c1, ey.c2⟩
                      clear hK K'
                      try simp only [Act.put, List.setIfInBounds_toArray, List.set_cons_zero, List.set_cons_succ]
                      refine wpAnyH_ready (rs := [21]) (by kernel_rfl) (by simp) ?_
                      refine AllReadyH.cons (o := _) rfl (fun K' hK => ?_) AllReadyH.nil
                      go_simp
                      refine hK.out _ _ ?_ (fun hHeld => ?_)
                      · exact ⟨(ex.keep0 ((Chg.refl [] _).alloc _)).c0, (ex.keep0 ((Chg.refl [] _).alloc _)).c1, (ex.keep0 ((Chg.refl [] _).alloc _)).c2, (ey.keep0 ((Chg.refl [] _).alloc _)).c0, (ey.keep0 ((Chg.refl [] _).alloc _)).c1, (ey.keep0 ((Chg.refl [] _).alloc _)).c2⟩
                      clear hK K'
                      try simp only [Act.put, List.setIfInBounds_toArray, List.set_cons_zero, List.set_cons_succ]
                      have bR := Blk3.alloc wk64 (.bool false) (.string ⟨#[]⟩) (.string ⟨#[]⟩) 38
                      have c9 : Chg [] wk64 (wk64.alloc (.cells #[.bool false, .string ⟨#[]⟩, .string ⟨#[]⟩] 38)) := (Chg.refl _ _).alloc _
                      have laR : _ ≤ wk64.heap.size := hcz.size
                      have lxR : _ < wk64.heap.size := ex.lt
                      have lPR : _ < wk64.heap.size := bP.lt
                      replace ex := ex.keep0 c9
                      replace ey := ey.keep0 c9
                      replace bP := bP.keep0 c9
                      replace hcz := hcz.then c9
                      clear c9
                      obtain ⟨wq65, HWwq65⟩ := name_it (wk64.alloc (.cells #[.bool false, .string ⟨#[]⟩, .string ⟨#[]⟩] 38))
                      obtain ⟨gR, HGgR⟩ := name_it wk64.heap.size
                      rw [HWwq65.out] at ex ey bP bR hcz hHeld ⊢
                      rw [HGgR.out] at bR laR lxR lPR ⊢
                      refine wpAnyH_ready (rs := [22]) (by kernel_rfl) (by simp) ?_
                      refine AllReadyH.cons (o := _) rfl (fun K' hK => ?_) AllReadyH.nil
                      have bPc0 := bP.c0
                      have bPc1 := bP.c1
                      have bPc2 := bP.c2
                      have bPf0 := bP.f0
                      have bPf1 := bP.f1
                      have bPf2 := bP.f2
                      have bPl := bP.lt
                      go_simp
                      refine hK.out _ _ ?_ (fun hHeld => ?_)
                      · exact ⟨(ex.st2 (by omega) _ _ _).c0, (ex.st2 (by omega) _ _ _).c1, (ex.st2 (by omega) _ _ _).c2, (ey.st2 (by omega) _ _ _).c0, (ey.st2 (by omega) _ _ _).c1, (ey.st2 (by omega) _ _ _).c2⟩
                      clear hK K'
                      try simp only [Act.put, List.setIfInBounds_toArray, List.set_cons_zero, List.set_cons_succ]
                      clear bPc0 bPc1 bPc2 bPf0 bPf1 bPf2
                      replace ex := ex.st2 (k := gP) (by omega) (.bool zx.neg) (.string zx.num) (.string zx.den)
                      replace ey := ey.st2 (k := gP) (by omega) (.bool zx.neg) (.string zx.num) (.string zx.den)
                      replace bP := bP.store (.bool zx.neg) (.string zx.num) (.string zx.den)
                      replace bR := bR.st2 (k := gP) (by omega) (.bool zx.neg) (.string zx.num) (.string zx.den)
                      replace hcz := hcz.store3 (.inr laP) (.bool zx.neg) (.string zx.num) (.string zx.den)
                      clear bPl
                      obtain ⟨ws66, HWws66⟩ := name_it (((wq65.setCell ⟨gP, 0, none⟩ (.bool zx.neg)).setCell ⟨gP, 1, none⟩ (.string zx.num)).setCell ⟨gP, 2, none⟩ (.string zx.den))
                      rw [HWws66.out] at ex ey bP bR hcz hHeld ⊢
                      refine wpAnyH_ready (rs := [23]) (by kernel_rfl) (by simp) ?_
                      refine AllReadyH.cons (o := _) rfl (fun K' hK => ?_) AllReadyH.nil
                      have bRc0 := bR.c0
                      have bRc1 := bR.c1
                      have bRc2 := bR.c2
                      have bRf0 := bR.f0
                      have bRf1 := bR.f1
                      have bRf2 := bR.f2
                      have bRl := bR.lt
                      go_simp
                      refine hK.out _ _ ?_ (fun hHeld => ?_)
                      · exact ⟨(ex.st2 (by omega) _ _ _).c0, (ex.st2 (by omega) _ _ _).c1, (ex.st2 (by omega) _ _ _).c2, (ey.st2 (by omega) _ _ _).c0, (ey.st2 (by omega) _ _ _).c1, (ey.st2 (by omega) _ _ _).c2⟩
                      clear hK K'
                      try simp only [Act.put, List.setIfInBounds_toArray, List.set_cons_zero, List.set_cons_succ]
                      clear bRc0 bRc1 bRc2 bRf0 bRf1 bRf2
                      replace ex := ex.st2 (k := gR) (by omega) (.bool zy.neg) (.string zy.num) (.string zy.den)
                      replace ey := ey.st2 (k := gR) (by omega) (.bool zy.neg) (.string zy.num) (.string zy.den)
                      replace bP := bP.st2 (k := gR) (by omega) (.bool zy.neg) (.string zy.num) (.string zy.den)
                      replace bR := bR.store (.bool zy.neg) (.string zy.num) (.string zy.den)
                      replace hcz := hcz.store3 (.inr laR) (.bool zy.neg) (.string zy.num) (.string zy.den)
                      clear bRl
                      obtain ⟨ws67, HWws67⟩ := name_it (((ws66.setCell ⟨gR, 0, none⟩ (.bool zy.neg)).setCell ⟨gR, 1, none⟩ (.string zy.num)).setCell ⟨gR, 2, none⟩ (.string zy.den))
                      rw [HWws67.out] at ex ey bP bR hcz hHeld ⊢
                      refine wpAnyH_done (by kernel_rfl) ?_ _
                      go_wp2_with fail
                      go_meet
                      exact ⟨⟨_, _, zx, zy, rfl, rfl, HX.out, HY.out, bP, bR⟩, hcz⟩
                    refine AllReadyH.cons (o := _) rfl (fun K' hK => ?_) AllReadyH.nil
                    go_simp
                    refine hK.out _ _ ?_ (fun hHeld => ?_)
                    · exact ⟨(ex.keep0 ((Chg.refl [] _).alloc _)).c0, (ex.keep0 ((Chg.refl [] _).alloc _)).c1, (ex.keep0 ((Chg.refl [] _).alloc _)).c2, (ey.keep0 ((Chg.refl [] _).alloc _)).c0, (ey.keep0 ((Chg.refl [] _).alloc _)).c1, (ey.keep0 ((Chg.refl [] _).alloc _)).c2⟩
                    clear hK K'
                    try simp only [Act.put, List.setIfInBounds_toArray, List.set_cons_zero, List.set_cons_succ]
                    have bR := Blk3.alloc wk63 (.bool false) (.string ⟨#[]⟩) (.string ⟨#[]⟩) 38
                    have c9 : Chg [] wk63 (wk63.alloc (.cells #[.bool false, .string ⟨#[]⟩, .string ⟨#[]⟩] 38)) := (Chg.refl _ _).alloc _
                    have laR : _ ≤ wk63.heap.size := hcz.size
                    have lxR : _ < wk63.heap.size := ex.lt
                    have lPR : _ < wk63.heap.size := bP.lt
                    replace ex := ex.keep0 c9
                    replace ey := ey.keep0 c9
                    replace bP := bP.keep0 c9
                    replace hcz := hcz.then c9
                    clear c9
                    obtain ⟨wq68, HWwq68⟩ := name_it (wk63.alloc (.cells #[.bool false, .string ⟨#[]⟩, .string ⟨#[]⟩] 38))
                    obtain ⟨gR, HGgR⟩ := name_it wk63.heap.size
                    rw [HWwq68.out] at ex ey bP bR hcz hHeld ⊢
                    rw [HGgR.out] at bR laR lxR lPR ⊢
                    refine wpAnyH_ready (rs := [19]) (by kernel_rfl) (by simp) ?_
                    refine AllReadyH.cons (o := _) rfl (fun K' hK => ?_) AllReadyH.nil
                    go_simp
                    refine (SubtractN y zf2 (ratOf y) (flo (ratOf y)) 250 (250 + 1) _ NY.out HF2.out.num (by omega)).mono ?_
                    rintro e9 wk69 ⟨zy, rfl, hzy, c6⟩
                    rw [HQY.out] at hzy
                    have HY := Lib.hid hzy
                    clear hzy
                    replace ex := ex.keep0 c6
                    replace ey := ey.keep0 c6
                    replace bP := bP.keep0 c6
                    replace bR := bR.keep0 c6
                    replace hcz := hcz.then c6
                    clear c6
                    go_wp2_with fail
                    refine hK.out _ _ ?_ (fun hHeld => ?_)
                    · exact ⟨ex.c0, ex.c1, ex.c2, ey.c0, ey.c1, ey.c2⟩
                    clear hK K'
                    try simp only [Act.put, List.setIfInBounds_toArray, List.set_cons_zero, List.set_cons_succ]
                    refine wpAnyH_ready (rs := [22]) (by kernel_rfl) (by simp) ?_
                    refine AllReadyH.cons (o := _) rfl (fun K' hK => ?_) AllReadyH.nil
                    have bPc0 := bP.c0
                    have bPc1 := bP.c1
                    have bPc2 := bP.c2
                    have bPf0 := bP.f0
                    have bPf1 := bP.f1
                    have bPf2 := bP.f2
                    have bPl := bP.lt
                    go_simp
                    refine hK.out _ _ ?_ (fun hHeld => ?_)
                    · exact ⟨(ex.st2 (by omega) _ _ _).c0, (ex.st2 (by omega) _ _ _).c1, (ex.st2 (by omega) _ _ _).c2, (ey.st2 (by omega) _ _ _).c0, (ey.st2 (by omega) _ _ _).c1, (ey.st2 (by omega) _ _ _).c2⟩
                    clear hK K'
                    try simp only [Act.put, List.setIfInBounds_toArray, List.set_cons_zero, List.set_cons_succ]
                    clear bPc0 bPc1 bPc2 bPf0 bPf1 bPf2
                    replace ex := ex.st2 (k := gP) (by omega) (.bool zx.neg) (.string zx.num) (.string zx.den)
                    replace ey := ey.st2 (k := gP) (by omega) (.bool zx.neg) (.string zx.num) (.string zx.den)
                    replace bP := bP.store (.bool zx.neg) (.string zx.num) (.string zx.den)
                    replace bR := bR.st2 (k := gP) (by omega) (.bool zx.neg) (.string zx.num) (.string zx.den)
                    replace hcz := hcz.store3 (.inr laP) (.bool zx.neg) (.string zx.num) (.string zx.den)
                    clear bPl
                    obtain ⟨ws70, HWws70⟩ := name_it (((wk69.setCell ⟨gP, 0, none⟩ (.bool zx.neg)).setCell ⟨gP, 1, none⟩ (.string zx.num)).setCell ⟨gP, 2, none⟩ (.string zx.den))
                    rw [HWws70.out] at ex ey bP bR hcz hHeld ⊢
                    refine wpAnyH_ready (rs := [23]) (by kernel_rfl) (by simp) ?_
                    refine AllReadyH.cons (o := _) rfl (fun K' hK => ?_) AllReadyH.nil
                    have bRc0 := bR.c0
                    have bRc1 := bR.c1
                    have bRc2 := bR.c2
                    have bRf0 := bR.f0
                    have bRf1 := bR.f1
                    have bRf2 := bR.f2
                    have bRl := bR.lt
                    go_simp
                    refine hK.out _ _ ?_ (fun hHeld => ?_)
                    · exact ⟨(ex.st2 (by omega) _ _ _).c0, (ex.st2 (by omega) _ _ _).c1, (ex.st2 (by omega) _ _ _).c2, (ey.st2 (by omega) _ _ _).c0, (ey.st2 (by omega) _ _ _).c1, (ey.st2 (by omega) _ _ _).c2⟩
                    clear hK K'
                    try simp only [Act.put, List.setIfInBounds_toArray, List.set_cons_zero, List.set_cons_succ]
                    clear bRc0 bRc1 bRc2 bRf0 bRf1 bRf2
                    replace ex := ex.st2 (k := gR) (by omega) (.bool zy.neg) (.string zy.num) (.string zy.den)
                    replace ey := ey.st2 (k := gR) (by omega) (.bool zy.neg) (.string zy.num) (.string zy.den)
                    replace bP := bP.st2 (k := gR) (by omega) (.bool zy.neg) (.string zy.num) (.string zy.den)
                    replace bR := bR.store (.bool zy.neg) (.string zy.num) (.string zy.den)
                    replace hcz := hcz.store3 (.inr laR) (.bool zy.neg) (.string zy.num) (.string zy.den)
                    clear bRl
                    obtain ⟨ws71, HWws71⟩ := name_it (((ws70.setCell ⟨gR, 0, none⟩ (.bool zy.neg)).setCell ⟨gR, 1, none⟩ (.string zy.num)).setCell ⟨gR, 2, none⟩ (.string zy.den))
                    rw [HWws71.out] at ex ey bP bR hcz hHeld ⊢
                    refine wpAnyH_done (by kernel_rfl) ?_ _
                    go_wp2_with fail
                    go_meet
                    exact ⟨⟨_, _, zx, zy, rfl, rfl, HX.out, HY.out, bP, bR⟩, hcz⟩
                  refine AllReadyH.cons (o := _) rfl (fun K' hK => ?_) AllReadyH.nil
                  go_simp
                  refine hK.out _ _ ?_ (fun hHeld => ?_)
                  · exact ⟨(ex.keep0 ((Chg.refl [] _).alloc _)).c0, (ex.keep0 ((Chg.refl [] _).alloc _)).c1, (ex.keep0 ((Chg.refl [] _).alloc _)).c2, (ey.keep0 ((Chg.refl [] _).alloc _)).c0, (ey.keep0 ((Chg.refl [] _).alloc _)).c1, (ey.keep0 ((Chg.refl [] _).alloc _)).c2⟩
                  clear hK K'
                  try simp only [Act.put, List.setIfInBounds_toArray, List.set_cons_zero, List.set_cons_succ]
                  have bR := Blk3.alloc wk62 (.bool false) (.string ⟨#[]⟩) (.string ⟨#[]⟩) 38
                  have c9 : Chg [] wk62 (wk62.alloc (.cells #[.bool false, .string ⟨#[]⟩, .string ⟨#[]⟩] 38)) := (Chg.refl _ _).alloc _
                  have laR : _ ≤ wk62.heap.size := hcz.size
                  have lxR : _ < wk62.heap.size := ex.lt
                  have lPR : _ < wk62.heap.size := bP.lt
                  replace ex := ex.keep0 c9
                  replace ey := ey.keep0 c9
                  replace bP := bP.keep0 c9
                  replace hcz := hcz.then c9
                  clear c9
                  obtain ⟨wq72, HWwq72⟩ := name_it (wk62.alloc (.cells #[.bool false, .string ⟨#[]⟩, .string ⟨#[]⟩] 38))
                  obtain ⟨gR, HGgR⟩ := name_it wk62.heap.size
                  rw [HWwq72.out] at ex ey bP bR hcz hHeld ⊢
                  rw [HGgR.out] at bR laR lxR lPR ⊢
                  refine wpAnyH_ready (rs := [18]) (by kernel_rfl) (by simp) ?_
                  refine AllReadyH.cons (o := _) rfl (fun K' hK => ?_) AllReadyH.nil
                  go_simp
                  refine (FloorN y (ratOf y) 250 _ NY.out (by omega)).mono ?_
                  rintro e9 wk73 ⟨zf2, rfl, hzf2, c6⟩
                  have HF2 := Lib.hid hzf2
                  clear hzf2
                  replace ex := ex.keep0 c6
                  replace ey := ey.keep0 c6
                  replace bP := bP.keep0 c6
                  replace bR := bR.keep0 c6
                  replace hcz := hcz.then c6
                  clear c6
                  go_wp2_with fail
                  refine hK.out _ _ ?_ (fun hHeld => ?_)
                  · exact ⟨ex.c0, ex.c1, ex.c2, ey.c0, ey.c1, ey.c2⟩
                  clear hK K'
                  try simp only [Act.put, List.setIfInBounds_toArray, List.set_cons_zero, List.set_cons_succ]
                  refine wpAnyH_ready (rs := [19]) (by kernel_rfl) (by simp) ?_
                  refine AllReadyH.cons (o := _) rfl (fun K' hK => ?_) AllReadyH.nil
                  go_simp
                  refine (SubtractN y zf2 (ratOf y) (flo (ratOf y)) 250 (250 + 1) _ NY.out HF2.out.num (by omega)).mono ?_
                  rintro e9 wk74 ⟨zy, rfl, hzy, c6⟩
                  rw [HQY.out] at hzy
                  have HY := Lib.hid hzy
                  clear hzy
                  replace ex := ex.keep0 c6
                  replace ey := ey.keep0 c6
                  replace bP := bP.keep0 c6
                  replace bR := bR.keep0 c6
                  replace hcz := hcz.then c6
                  clear c6
                  go_wp2_with fail
                  refine hK.out _ _ ?_ (fun hHeld => ?_)
                  · exact ⟨ex.c0, ex.c1, ex.c2, ey.c0, ey.c1, ey.c2⟩
                  clear hK K'
                  try simp only [Act.put, List.setIfInBounds_toArray, List.set_cons_zero, List.set_cons_succ]
                  refine wpAnyH_ready (rs := [22]) (by kernel_rfl) (by simp) ?_
                  refine AllReadyH.cons (o := _) rfl (fun K' hK => ?_) AllReadyH.nil
                  have bPc0 := bP.c0
                  have bPc1 := bP.c1
                  have bPc2 := bP.c2
                  have bPf0 := bP.f0
                  have bPf1 := bP.f1
                  have bPf2 := bP.f2
                  have bPl := bP.lt
                  go_simp
                  refine hK.out _ _ ?_ (fun hHeld => ?_)
                  · exact ⟨(ex.st2 (by omega) _ _ _).c0, (ex.st2 (by omega) _ _ _).c1, (ex.st2 (by omega) _ _ _).c2, (ey.st2 (by omega) _ _ _).c0, (ey.st2 (by omega) _ _ _).c1, (ey.st2 (by omega) _ _ _).c2⟩
                  clear hK K'
                  try simp only [Act.put, List.setIfInBounds_toArray, List.set_cons_zero, List.set_cons_succ]
                  clear bPc0 bPc1 bPc2 bPf0 bPf1 bPf2
                  replace ex := ex.st2 (k := gP) (by omega) (.bool zx.neg) (.string zx.num) (.string zx.den)
                  replace ey := ey.st2 (k := gP) (by omega) (.bool zx.neg) (.string zx.num) (.string zx.den)
                  replace bP := bP.store (.bool zx.neg) (.string zx.num) (.string zx.den)
                  replace bR := bR.st2 (k := gP) (by omega) (.bool zx.neg) (.string zx.num) (.string zx.den)
                  replace hcz := hcz.store3 (.inr laP) (.bool zx.neg) (.string zx.num) (.string zx.den)
                  clear bPl
                  obtain ⟨ws75, HWws75⟩ := name_it (((wk74.setCell ⟨gP, 0, none⟩ (.bool zx.neg)).setCell ⟨gP, 1, none⟩ (.string zx.num)).setCell ⟨gP, 2, none⟩ (.string zx.den))
                  rw [HWws75.out] at ex ey bP bR hcz hHeld ⊢
                  refine wpAnyH_ready (rs := [23]) (by kernel_rfl) (by simp) ?_
                  refine AllReadyH.cons (o := _) rfl (fun K' hK => ?_) AllReadyH.nil
                  have bRc0 := bR.c0
                  have bRc1 := bR.c1
                  have bRc2 := bR.c2
                  have bRf0 := bR.f0
                  have bRf1 := bR.f1
                  have bRf2 := bR.f2
                  have bRl := bR.lt
                  go_simp
                  refine hK.out _ _ ?_ (fun hHeld => ?_)
                  · exact ⟨(ex.st2 (by omega) _ _ _).c0, (ex.st2 (by omega) _ _ _).c1, (ex.st2 (by omega) _ _ _).c2, (ey.st2 (by omega) _ _ _).c0, (ey.st2 (by omega) _ _ _).c1, (ey.st2 (by omega) _ _ _).c2⟩
                  clear hK K'
                  try simp only [Act.put, List.setIfInBounds_toArray, List.set_cons_zero, List.set_cons_succ]
                  clear bRc0 bRc1 bRc2 bRf0 bRf1 bRf2
                  replace ex := ex.st2 (k := gR) (by omega) (.bool zy.neg) (.string zy.num) (.string zy.den)
                  replace ey := ey.st2 (k := gR) (by omega) (.bool zy.neg) (.string zy.num) (.string zy.den)
                  replace bP := bP.st2 (k := gR) (by omega) (.bool zy.neg) (.string zy.num) (.string zy.den)
                  replace bR := bR.store (.bool zy.neg) (.string zy.num) (.string zy.den)
                  replace hcz := hcz.store3 (.inr laR) (.bool zy.neg) (.string zy.num) (.string zy.den)
                  clear bRl
                  obtain ⟨ws76, HWws76⟩ := name_it (((ws75.setCell ⟨gR, 0, none⟩ (.bool zy.neg)).setCell ⟨gR, 1, none⟩ (.string zy.num)).setCell ⟨gR, 2, none⟩ (.string zy.den))
                  rw [HWws76.out] at ex ey bP bR hcz hHeld ⊢
                  refine wpAnyH_done (by kernel_rfl) ?_ _
                  go_wp2_with fail
                  go_meet
                  exact ⟨⟨_, _, zx, zy, rfl, rfl, HX.out, HY.out, bP, bR⟩, hcz⟩
                refine AllReadyH.cons (o := _) rfl (fun K' hK => ?_) AllReadyH.nil
                go_simp
                refine hK.out _ _ ?_ (fun hHeld => ?_)
                · exact ⟨(ex.keep0 ((Chg.refl [] _).alloc _)).c0, (ex.keep0 ((Chg.refl [] _).alloc _)).c1, (ex.keep0 ((Chg.refl [] _).alloc _)).c2, (ey.keep0 ((Chg.refl [] _).alloc _)).c0, (ey.keep0 ((Chg.refl [] _).alloc _)).c1, (ey.keep0 ((Chg.refl [] _).alloc _)).c2⟩
                clear hK K'
                try simp only [Act.put, List.setIfInBounds_toArray, List.set_cons_zero, List.set_cons_succ]
                have bR := Blk3.alloc wq61 (.bool false) (.string ⟨#[]⟩) (.string ⟨#[]⟩) 38
                have c9 : Chg [] wq61 (wq61.alloc (.cells #[.bool false, .string ⟨#[]⟩, .string ⟨#[]⟩] 38)) := (Chg.refl _ _).alloc _
                have laR : _ ≤ wq61.heap.size := hcz.size
                have lxR : _ < wq61.heap.size := ex.lt
                have lPR : _ < wq61.heap.size := bP.lt
                replace ex := ex.keep0 c9
                replace ey := ey.keep0 c9
                replace bP := bP.keep0 c9
                replace hcz := hcz.then c9
                clear c9
                obtain ⟨wq77, HWwq77⟩ := name_it (wq61.alloc (.cells #[.bool false, .string ⟨#[]⟩, .string ⟨#[]⟩] 38))
                obtain ⟨gR, HGgR⟩ := name_it wq61.heap.size
                rw [HWwq77.out] at ex ey bP bR hcz hHeld ⊢
                rw [HGgR.out] at bR laR lxR lPR ⊢
                refine wpAnyH_ready (rs := [9]) (by kernel_rfl) (by simp) ?_
                refine AllReadyH.cons (o := _) rfl (fun K' hK => ?_) AllReadyH.nil
                go_simp
                refine (SubtractN x zf1 (ratOf x) (flo (ratOf x)) 250 (250 + 1) _ NX.out HF1.out.num (by omega)).mono ?_
                rintro e9 wk78 ⟨zx, rfl, hzx, c6⟩
                rw [HQX.out] at hzx
                have HX := Lib.hid hzx
                clear hzx
                replace ex := ex.keep0 c6
                replace ey := ey.keep0 c6
                replace bP := bP.keep0 c6
                replace bR := bR.keep0 c6
                replace hcz := hcz.then c6
                clear c6
                go_wp2_with fail
                refine hK.out _ _ ?_ (fun hHeld => ?_)
                · exact ⟨ex.c0, ex.c1, ex.c2, ey.c0, ey.c1, ey.c2⟩
                clear hK K'
                try simp only [Act.put, List.setIfInBounds_toArray, List.set_cons_zero, List.set_cons_succ]
                refine wpAnyH_ready (rs := [18]) (by kernel_rfl) (by simp) ?_
                refine AllReadyH.cons (o := _) rfl (fun K' hK => ?_) AllReadyH.nil
                go_simp
                refine (FloorN y (ratOf y) 250 _ NY.out (by omega)).mono ?_
                rintro e9 wk79 ⟨zf2, rfl, hzf2, c6⟩
                have HF2 := Lib.hid hzf2
                clear hzf2
                replace ex := ex.keep0 c6
                replace ey := ey.keep0 c6
                replace bP := bP.keep0 c6
                replace bR := bR.keep0 c6
                replace hcz := hcz.then c6
                clear c6
                go_wp2_with fail
                refine hK.out _ _ ?_ (fun hHeld => ?_)
                · exact ⟨ex.c0, ex.c1, ex.c2, ey.c0, ey.c1, ey.c2⟩
                clear hK K'
                try simp only [Act.put, List.setIfInBounds_toArray, List.set_cons_zero, List.set_cons_succ]
                refine wpAnyH_ready (rs := [19]) (by kernel_rfl) (by simp) ?_
                refine AllReadyH.cons (o := _) rfl (fun K' hK => ?_) AllReadyH.nil
                go_simp
                refine (SubtractN y zf2 (ratOf y) (flo (ratOf y)) 250 (250 + 1) _ NY.out HF2.out.num (by omega)).mono ?_
                rintro e9 wk80 ⟨zy, rfl, hzy, c6⟩
                rw [HQY.out] at hzy
                have HY := Lib.hid hzy
                clear hzy
                replace ex := ex.keep0 c6
                replace ey := ey.keep0 c6
                replace bP := bP.keep0 c6
                replace bR := bR.keep0 c6
                replace hcz := hcz.then c6
                clear c6
                go_wp2_with fail
                refine hK.out _ _ ?_ (fun hHeld => ?_)
                · exact ⟨ex.c0, ex.c1, ex.c2, ey.c0, ey.c1, ey.c2⟩
                clear hK K'
                try simp only [Act.put, List.setIfInBounds_toArray, List.set_cons_zero, List.set_cons_succ]
                refine wpAnyH_ready (rs := [22]) (by kernel_rfl) (by simp) ?_
                refine AllReadyH.cons (o := _) rfl (fun K' hK => ?_) AllReadyH.nil
                have bPc0 := bP.c0
                have bPc1 := bP.c1
                have bPc2 := bP.c2
                have bPf0 := bP.f0
                have bPf1 := bP.f1
                have bPf2 := bP.f2
                have bPl := bP.lt
                go_simp
                refine hK.out _ _ ?_ (fun hHeld => ?_)
                · exact ⟨(ex.st2 (by omega) _ _ _).c0, (ex.st2 (by omega) _ _ _).c1, (ex.st2 (by omega) _ _ _).c2, (ey.st2 (by omega) _ _ _).c0, (ey.st2 (by omega) _ _ _).c1, (ey.st2 (by omega) _ _ _).c2⟩
                clear hK K'
                try simp only [Act.put, List.setIfInBounds_toArray, List.set_cons_zero, List.set_cons_succ]
                clear bPc0 bPc1 bPc2 bPf0 bPf1 bPf2
                replace ex := ex.st2 (k := gP) (by omega) (.bool zx.neg) (.string zx.num) (.string zx.den)
                replace ey := ey.st2 (k := gP) (by omega) (.bool zx.neg) (.string zx.num) (.string zx.den)
                replace bP := bP.store (.bool zx.neg) (.string zx.num) (.string zx.den)
                replace bR := bR.st2 (k := gP) (by omega) (.bool zx.neg) (.string zx.num) (.string zx.den)
                replace hcz := hcz.store3 (.inr laP) (.bool zx.neg) (.string zx.num) (.string zx.den)
                clear bPl
                obtain ⟨ws81, HWws81⟩ := name_it (((wk80.setCell ⟨gP, 0, none⟩ (.bool zx.neg)).setCell ⟨gP, 1, none⟩ (.string zx.num)).setCell ⟨gP, 2, none⟩ (.string zx.den))
                rw [HWws81.out] at ex ey bP bR hcz hHeld ⊢
                refine wpAnyH_ready (rs := [23]) (by kernel_rfl) (by simp) ?_
                refine AllReadyH.cons (o := _) rfl (fun K' hK => ?_) AllReadyH.nil
                have bRc0 := bR.c0
                have bRc1 := bR.c1
                have bRc2 := bR.c2
                have bRf0 := bR.f0
                have bRf1 := bR.f1
                have bRf2 := bR.f2
                have bRl := bR.lt
                go_simp
                refine hK.out _ _ ?_ (fun hHeld => ?_)
                · exact ⟨(ex.st2 (by omega) _ _ _).c0, (ex.st2 (by omega) _ _ _).c1, (ex.st2 (by omega) _ _ _).c2, (ey.st2 (by omega) _ _ _).c0, (ey.st2 (by omega) _ _ _).c1, (ey.st2 (by omega) _ _ _).c2⟩
                clear hK K'
                try simp only [Act.put, List.setIfInBounds_toArray, List.set_cons_zero, List.set_cons_succ]
                clear bRc0 bRc1 bRc2 bRf0 bRf1 bRf2
                replace ex := ex.st2 (k := gR) (by omega) (.bool zy.neg) (.string zy.num) (.string zy.den)
                replace ey := ey.st2 (k := gR) (by omega) (.bool zy.neg) (.string zy.num) (.string zy.den)
                replace bP := bP.st2 (k := gR) (by omega) (.bool zy.neg) (.string zy.num) (.string zy.den)
                replace bR := bR.store (.bool zy.neg) (.string zy.num) (.string zy.den)
                replace hcz := hcz.store3 (.inr laR) (.bool zy.neg) (.string zy.num) (.string zy.den)
                clear bRl
                obtain ⟨ws82, HWws82⟩ := name_it (((ws81.setCell ⟨gR, 0, none⟩ (.bool zy.neg)).setCell ⟨gR, 1, none⟩ (.string zy.num)).setCell ⟨gR, 2, none⟩ (.string zy.den))
                rw [HWws82.out] at ex ey bP bR hcz hHeld ⊢
                refine wpAnyH_done (by kernel_rfl) ?_ _
                go_wp2_with fail
                go_meet
                exact ⟨⟨_, _, zx, zy, rfl, rfl, HX.out, HY.out, bP, bR⟩, hcz⟩
              refine AllReadyH.cons (o := _) rfl (fun K' hK => ?_) AllReadyH.nil
              go_simp
              refine hK.out _ _ ?_ (fun hHeld => ?_)
              · exact ⟨(ex.keep0 ((Chg.refl [] _).alloc _)).c0, (ex.keep0 ((Chg.refl [] _).alloc _)).c1, (ex.keep0 ((Chg.refl [] _).alloc _)).c2, (ey.keep0 ((Chg.refl [] _).alloc _)).c0, (ey.keep0 ((Chg.refl [] _).alloc _)).c1, (ey.keep0 ((Chg.refl [] _).alloc _)).c2⟩
              clear hK K'
              try simp only [Act.put, List.setIfInBounds_toArray, List.set_cons_zero, List.set_cons_succ]
              have bR := Blk3.alloc wk1 (.bool false) (.string ⟨#[]⟩) (.string ⟨#[]⟩) 38
              have c9 : Chg [] wk1 (wk1.alloc (.cells #[.bool false, .string ⟨#[]⟩, .string ⟨#[]⟩] 38)) := (Chg.refl _ _).alloc _
              have laR : _ ≤ wk1.heap.size := hcz.size
              have lxR : _ < wk1.heap.size := ex.lt
              replace ex := ex.keep0 c9
              replace ey := ey.keep0 c9
              replace hcz := hcz.then c9
              clear c9
              obtain ⟨wq83, HWwq83⟩ := name_it (wk1.alloc (.cells #[.bool false, .string ⟨#[]⟩, .string ⟨#[]⟩] 38))
              obtain ⟨gR, HGgR⟩ := name_it wk1.heap.size
              rw [HWwq83.out] at ex ey bR hcz hHeld ⊢
              rw [HGgR.out] at bR laR lxR ⊢
              refine wpAnyH_ready (rs := [9, 20]) (by kernel_rfl) (by simp) ?_
              refine AllReadyH.cons (o := _) rfl (fun K' hK => ?_) ?_
              · go_simp
                refine (SubtractN x zf1 (ratOf x) (flo (ratOf x)) 250 (250 + 1) _ NX.out HF1.out.num (by omega)).mono ?_
                rintro e9 wk84 ⟨zx, rfl, hzx, c6⟩
                rw [HQX.out] at hzx
                have HX := Lib.hid hzx
                clear hzx
                replace ex := ex.keep0 c6
                replace ey := ey.keep0 c6
                replace bR := bR.keep0 c6
                replace hcz := hcz.then c6
                clear c6
                go_wp2_with fail
                refine hK.out _ _ ?_ (fun hHeld => ?_)
                · exact ⟨ex.c0, ex.c1, ex.c2, ey.c0, ey.c1, ey.c2⟩
                clear hK K'
                try simp only [Act.put, List.setIfInBounds_toArray, List.set_cons_zero, List.set_cons_succ]
                refine wpAnyH_ready (rs := [18, 20]) (by kernel_rfl) (by simp) ?_
                refine AllReadyH.cons (o := _) rfl (fun K' hK => ?_) ?_
                · go_simp
                  refine (FloorN y (ratOf y) 250 _ NY.out (by omega)).mono ?_
                  rintro e9 wk85 ⟨zf2, rfl, hzf2, c6⟩
                  have HF2 := Lib.hid hzf2
                  clear hzf2
                  replace ex := ex.keep0 c6
                  replace ey := ey.keep0 c6
                  replace bR := bR.keep0 c6
                  replace hcz := hcz.then c6
                  clear c6
                  go_wp2_with fail
                  refine hK.out _ _ ?_ (fun hHeld => ?_)
                  · exact ⟨ex.c0, ex.c1, ex.c2, ey.c0, ey.c1, ey.c2⟩
                  clear hK K'
                  try simp only [Act.put, List.setIfInBounds_toArray, List.set_cons_zero, List.set_cons_succ]
                  refine wpAnyH_ready (rs := [19, 20]) (by kernel_rfl) (by simp) ?_
                  refine AllReadyH.cons (o := _) rfl (fun K' hK => ?_) ?_
                  · go_simp
                    refine (SubtractN y zf2 (ratOf y) (flo (ratOf y)) 250 (250 + 1) _ NY.out HF2.out.num (by omega)).mono ?_
                    rintro e9 wk86 ⟨zy, rfl, hzy, c6⟩
                    rw [HQY.out] at hzy
                    have HY := Lib.hid hzy
                    clear hzy
                    replace ex := ex.keep0 c6
                    replace ey := ey.keep0 c6
                    replace bR := bR.keep0 c6
                    replace hcz := hcz.then c6
                    clear c6
                    go_wp2_with fail
                    refine hK.out _ _ ?_ (fun hHeld => ?_)
                    · exact ⟨ex.c0, ex.c1, ex.c2, ey.c0, ey.c1, ey.c2⟩
                    clear hK K'
                    try simp only [Act.put, List.setIfInBounds_toArray, List.set_cons_zero, List.set_cons_succ]
                    refine wpAnyH_ready (rs := [20]) (by kernel_rfl) (by simp) ?_
                    refine AllReadyH.cons (o := _) rfl (fun K' hK => ?_) AllReadyH.nil
                    go_simp
                    refine hK.out _ _ ?_ (fun hHeld => ?_)
                    · exact ⟨(ex.keep0 ((Chg.refl [] _).alloc _)).c0, (ex.keep0 ((Chg.refl [] _).alloc _)).c1, (ex.keep0 ((Chg.refl [] _).alloc _)).c2, (ey.keep0 ((Chg.refl [] _).alloc _)).c0, (ey.keep0 ((Chg.refl [] _).alloc _)).c1, (ey.keep0 ((Chg.refl [] _).alloc _)).c2⟩
                    clear hK K'
                    try simp only [Act.put, List.setIfInBounds_toArray, List.set_cons_zero, List.set_cons_succ]
                    have bP := Blk3.alloc wk86 (.bool false) (.string ⟨#[]⟩) (.string ⟨#[]⟩) 38
                    have c9 : Chg [] wk86 (wk86.alloc (.cells #[.bool false, .string ⟨#[]⟩, .string ⟨#[]⟩] 38)) := (Chg.refl _ _).alloc _
                    have laP : _ ≤ wk86.heap.size := hcz.size
                    have lxP : _ < wk86.heap.size := ex.lt
                    have lRP : _ < wk86.heap.size := bR.lt
                    replace ex := ex.keep0 c9
                    replace ey := ey.keep0 c9
                    replace bR := bR.keep0 c9
                    replace hcz := hcz.then c9
                    clear c9
                    obtain ⟨wq87, HWwq87⟩ := name_it (wk86.alloc (.cells #[.bool false, .string ⟨#[]⟩, .string ⟨#[]⟩] 38))
                    obtain ⟨gP, HGgP⟩ := name_it wk86.heap.size
                    rw [HWwq87.out] at ex ey bR bP hcz hHeld ⊢
                    rw [HGgP.out] at bP laP lxP lRP ⊢
                    refine wpAnyH_ready (rs := [22]) (by kernel_rfl) (by simp) ?_
                    refine AllReadyH.cons (o := _) rfl (fun K' hK => ?_) AllReadyH.nil
                    have bPc0 := bP.c0
                    have bPc1 := bP.c1
                    have bPc2 := bP.c2
                    have bPf0 := bP.f0
                    have bPf1 := bP.f1
                    have bPf2 := bP.f2
                    have bPl := bP.lt
                    go_simp
                    refine hK.out _ _ ?_ (fun hHeld => ?_)
                    · exact ⟨(ex.st2 (by omega) _ _ _).c0, (ex.st2 (by omega) _ _ _).c1, (ex.st2 (by omega) _ _ _).c2, (ey.st2 (by omega) _ _ _).c0, (ey.st2 (by omega) _ _ _).c1, (ey.st2 (by omega) _ _ _).c2⟩
                    clear hK K'
                    try simp only [Act.put, List.setIfInBounds_toArray, List.set_cons_zero, List.set_cons_succ]
                    clear bPc0 bPc1 bPc2 bPf0 bPf1 bPf2
                    replace ex := ex.st2 (k := gP) (by omega) (.bool zx.neg) (.string zx.num) (.string zx.den)
                    replace ey := ey.st2 (k := gP) (by omega) (.bool zx.neg) (.string zx.num) (.string zx.den)
                    replace bR := bR.st2 (k := gP) (by omega) (.bool zx.neg) (.string zx.num) (.string zx.den)
                    replace bP := bP.store (.bool zx.neg) (.string zx.num) (.string zx.den)
                    replace hcz := hcz.store3 (.inr laP) (.bool zx.neg) (.string zx.num) (.string zx.den)
                    clear bPl
                    obtain ⟨ws88, HWws88⟩ := name_it (((wq87.setCell ⟨gP, 0, none⟩ (.bool zx.neg)).setCell ⟨gP, 1, none⟩ (.string zx.num)).setCell ⟨gP, 2, none⟩ (.string zx.den))
                    rw [HWws88.out] at ex ey bR bP hcz hHeld ⊢
                    refine wpAnyH_ready (rs := [23]) (by kernel_rfl) (by simp) ?_
                    refine AllReadyH.cons (o := _) rfl (fun K' hK => ?_) AllReadyH.nil
                    have bRc0 := bR.c0
                    have bRc1 := bR.c1
                    have bRc2 := bR.c2
                    have bRf0 := bR.f0
                    have bRf1 := bR.f1
                    have bRf2 := bR.f2
                    have bRl := bR.lt
                    go_simp
                    refine hK.out _ _ ?_ (fun hHeld => ?_)
                    · exact ⟨(ex.st2 (by omega) _ _ _).c0, (ex.st2 (by omega) _ _ _).c1, (ex.st2 (by omega) _ _ _).c2, (ey.st2 (by omega) _ _ _).c0, (ey.st2 (by omega) _ _ _).c1, (ey.st2 (by omega) _ _ _).c2⟩
                    clear hK K'
                    try simp only [Act.put, List.setIfInBounds_toArray, List.set_cons_zero, List.set_cons_succ]
                    clear bRc0 bRc1 bRc2 bRf0 bRf1 bRf2
                    replace ex := ex.st2 (k := gR) (by omega) (.bool zy.neg) (.string zy.num) (.string zy.den)
                    replace ey := ey.st2 (k := gR) (by omega) (.bool zy.neg) (.string zy.num) (.string zy.den)
                    replace bR := bR.store (.bool zy.neg) (.string zy.num) (.string zy.den)
                    replace bP := bP.st2 (k := gR) (by omega) (.bool zy.neg) (.string zy.num) (.string zy.den)
                    replace hcz := hcz.store3 (.inr laR) (.bool zy.neg) (.string zy.num) (.string zy.den)
                    clear bRl
                    obtain ⟨ws89, HWws89⟩ := name_it (((ws88.setCell ⟨gR, 0, none⟩ (.bool zy.neg)).setCell ⟨gR, 1, none⟩ (.string zy.num)).setCell ⟨gR, 2, none⟩ (.string zy.den))
                    rw [HWws89.out] at ex ey bR bP hcz hHeld ⊢
                    refine wpAnyH_done (by kernel_rfl) ?_ _
                    go_wp2_with fail
                    go_meet
                    exact ⟨⟨_, _, zx, zy, rfl, rfl, HX.out, HY.out, bP, bR⟩, hcz⟩
                  refine AllReadyH.cons (o := _) rfl (fun K' hK => ?_) AllReadyH.nil
                  go_simp
                  refine hK.out _ _ ?_ (fun hHeld => ?_)
                  · exact ⟨(ex.keep0 ((Chg.refl [] _).alloc _)).c0, (ex.keep0 ((Chg.refl [] _).alloc _)).c1, (ex.keep0 ((Chg.refl [] _).alloc _)).c2, (ey.keep0 ((Chg.refl [] _).alloc _)).c0, (ey.keep0 ((Chg.refl [] _).alloc _)).c1, (ey.keep0 ((Chg.refl [] _).alloc _)).c2⟩
                  clear hK K'
                  try simp only [Act.put, List.setIfInBounds_toArray, List.set_cons_zero, List.set_cons_succ]
                  have bP := Blk3.alloc wk85 (.bool false) (.string ⟨#[]⟩) (.string ⟨#[]⟩) 38
                  have c9 : Chg [] wk85 (wk85.alloc (.cells #[.bool false, .string ⟨#[]⟩, .string ⟨#[]⟩] 38)) := (Chg.refl _ _).alloc _
                  have laP : _ ≤ wk85.heap.size := hcz.size
                  have lxP : _ < wk85.heap.size := ex.lt
                  have lRP : _ < wk85.heap.size := bR.lt
                  replace ex := ex.keep0 c9
                  replace ey := ey.keep0 c9
                  replace bR := bR.keep0 c9
                  replace hcz := hcz.then c9
                  clear c9
                  obtain ⟨wq90, HWwq90⟩ := name_it (wk85.alloc (.cells #[.bool false, .string ⟨#[]⟩, .string ⟨#[]⟩] 38))
                  obtain ⟨gP, HGgP⟩ := name_it wk85.heap.size
                  rw [HWwq90.out] at ex ey bR bP hcz hHeld ⊢
                  rw [HGgP.out] at bP laP lxP lRP ⊢
                  refine wpAnyH_ready (rs := [19]) (by kernel_rfl) (by simp) ?_
                  refine AllReadyH.cons (o := _) rfl (fun K' hK => ?_) AllReadyH.nil
                  go_simp
                  refine (SubtractN y zf2 (ratOf y) (flo (ratOf y)) 250 (250 + 1) _ NY.out HF2.out.num (by omega)).mono ?_
                  rintro e9 wk91 ⟨zy, rfl, hzy, c6⟩
                  rw [HQY.out] at hzy
                  have HY := Lib.hid hzy
                  clear hzy
                  replace ex := ex.keep0 c6
                  replace ey := ey.keep0 c6
                  replace bR := bR.keep0 c6
                  replace bP := bP.keep0 c6
                  replace hcz := hcz.then c6
                  clear c6
                  go_wp2_with fail
                  refine hK.out _ _ ?_ (fun hHeld => ?_)
                  · exact ⟨ex.c0, ex.c1, ex.c2, ey.c0, ey.c1, ey.c2⟩
                  clear hK K'
                  try simp only [Act.put, List.setIfInBounds_toArray, List.set_cons_zero, List.set_cons_succ]
                  refine wpAnyH_ready (rs := [22]) (by kernel_rfl) (by simp) ?_
                  refine AllReadyH.cons (o := _) rfl (fun K' hK => ?_) AllReadyH.nil
                  have bPc0 := bP.c0
                  have bPc1 := bP.c1
                  have bPc2 := bP.c2
                  have bPf0 := bP.f0
                  have bPf1 := bP.f1
                  have bPf2 := bP.f2
                  have bPl := bP.lt
                  go_simp
                  refine hK.out _ _ ?_ (fun hHeld => ?_)
                  · exact ⟨(ex.st2 (by omega) _ _ _).c0, (ex.st2 (by omega) _ _ _).c1, (ex.st2 (by omega) _ _ _).c2, (ey.st2 (by omega) _ _ _).c0, (ey.st2 (by omega) _ _ _).c1, (ey.st2 (by omega) _ _ _).c2⟩
                  clear hK K'
                  try simp only [Act.put, List.setIfInBounds_toArray, List.set_cons_zero, List.set_cons_succ]
                  clear bPc0 bPc1 bPc2 bPf0 bPf1 bPf2
                  replace ex := ex.st2 (k := gP) (by omega) (.bool zx.neg) (.string zx.num) (.string zx.den)
                  replace ey := ey.st2 (k := gP) (by omega) (.bool zx.neg) (.string zx.num) (.string zx.den)
                  replace bR := bR.st2 (k := gP) (by omega) (.bool zx.neg) (.string zx.num) (.string zx.den)
                  replace bP := bP.store (.bool zx.neg) (.string zx.num) (.string zx.den)
                  replace hcz := hcz.store3 (.inr laP) (.bool zx.neg) (.string zx.num) (.string zx.den)
                  clear bPl
                  obtain ⟨ws92, HWws92⟩ := name_it (((wk91.setCell ⟨gP, 0, none⟩ (.bool zx.neg)).setCell ⟨gP, 1, none⟩ (.string zx.num)).setCell ⟨gP, 2, none⟩ (.string zx.den))
                  rw [HWws92.out] at ex ey bR bP hcz hHeld ⊢
                  refine wpAnyH_ready (rs := [23]) (by kernel_rfl) (by simp) ?_
                  refine AllReadyH.cons (o := _) rfl (fun K' hK => ?_) AllReadyH.nil
                  have bRc0 := bR.c0
                  have bRc1 := bR.c1
                  have bRc2 := bR.c2
                  have bRf0 := bR.f0
                  have bRf1 := bR.f1
                  have bRf2 := bR.f2
                  have bRl := bR.lt
                  go_simp
                  refine hK.out _ _ ?_ (fun hHeld => ?_)
                  · exact ⟨(ex.st2 (by omega) _ _ _).c0, (ex.st2 (by omega) _ _ _).c1, (ex.st2 (by omega) _ _ _).c2, (ey.st2 (by omega) _ _ _).c0, (ey.st2 (by omega) _ _ _).c1, (ey.st2 (by omega) _ _ _).c2⟩
                  clear hK K'
                  try simp only [Act.put, List.setIfInBounds_toArray, List.set_cons_zero, List.set_cons_succ]
                  clear bRc0 bRc1 bRc2 bRf0 bRf1 bRf2
                  replace ex := ex.st2 (k := gR) (by omega) (.bool zy.neg) (.string zy.num) (.string zy.den)
                  replace ey := ey.st2 (k := gR) (by omega) (.bool zy.neg) (.string zy.num) (.string zy.den)
                  replace bR := bR.store (.bool zy.neg) (.string zy.num) (.string zy.den)
                  replace bP := bP.st2 (k := gR) (by omega) (.bool zy.neg) (.string zy.num) (.string zy.den)
                  replace hcz := hcz.store3 (.inr laR) (.bool zy.neg) (.string zy.num) (.string zy.den)
                  clear bRl
                  obtain ⟨ws93, HWws93⟩ := name_it (((ws92.setCell ⟨gR, 0, none⟩ (.bool zy.neg)).setCell ⟨gR, 1, none⟩ (.string zy.num)).setCell ⟨gR, 2, none⟩ (.string zy.den))
                  rw [HWws93.out] at ex ey bR bP hcz hHeld ⊢
                  refine wpAnyH_done (by kernel_rfl) ?_ _
                  go_wp2_with fail
                  go_meet
                  exact ⟨⟨_, _, zx, zy, rfl, rfl, HX.out, HY.out, bP, bR⟩, hcz⟩
                refine AllReadyH.cons (o := _) rfl (fun K' hK => ?_) AllReadyH.nil
                go_simp
                refine hK.out _ _ ?_ (fun hHeld => ?_)
                · exact ⟨(ex.keep0 ((Chg.refl [] _).alloc _)).c0, (ex.keep0 ((Chg.refl [] _).alloc _)).c1, (ex.keep0 ((Chg.refl [] _).alloc _)).c2, (ey.keep0 ((Chg.refl [] _).alloc _)).c0, (ey.keep0 ((Chg.refl [] _).alloc _)).c1, (ey.keep0 ((Chg.refl [] _).alloc _)).c2⟩
                clear hK K'
                try simp only [Act.put, List.setIfInBounds_toArray, List.set_cons_zero, List.set_cons_succ]
                have bP := Blk3.alloc wk84 (.bool false) (.string ⟨#[]⟩) (.string ⟨#[]⟩) 38
                have c9 : Chg [] wk84 (wk84.alloc (.cells #[.bool false, .string ⟨#[]⟩, .string ⟨#[]⟩] 38)) := (Chg.refl _ _).alloc _
                have laP : _ ≤ wk84.heap.size := hcz.size
                have lxP : _ < wk84.heap.size := ex.lt
                have lRP : _ < wk84.heap.size := bR.lt
                replace ex := ex.keep0 c9
                replace ey := ey.keep0 c9
                replace bR := bR.keep0 c9
                replace hcz := hcz.then c9
                clear c9
                obtain ⟨wq94, HWwq94⟩ := name_it (wk84.alloc (.cells #[.bool false, .string ⟨#[]⟩, .string ⟨#[]⟩] 38))
                obtain ⟨gP, HGgP⟩ := name_it wk84.heap.size
                rw [HWwq94.out] at ex ey bR bP hcz hHeld ⊢
                rw [HGgP.out] at bP laP lxP lRP ⊢
                refine wpAnyH_ready (rs := [18]) (by kernel_rfl) (by simp) ?_
                refine AllReadyH.cons (o := _) rfl (fun K' hK => ?_) AllReadyH.nil
                go_simp
                refine (FloorN y (ratOf y) 250 _ NY.out (by omega)).mono ?_
                rintro e9 wk95 ⟨zf2, rfl, hzf2, c6⟩
                have HF2 := Lib.hid hzf2
                clear hzf2
                replace ex := ex.keep0 c6
                replace ey := ey.keep0 c6
                replace bR := bR.keep0 c6
                replace bP := bP.keep0 c6
                replace hcz := hcz.then c6
                clear c6
                go_wp2_with fail
                refine hK.out _ _ ?_ (fun hHeld => ?_)
                · exact ⟨ex.c0, ex.c1, ex.c2, ey.c0, ey.c1, ey.c2⟩
                clear hK K'
                try simp only [Act.put, List.setIfInBounds_toArray, List.set_cons_zero, List.set_cons_succ]
                refine wpAnyH_ready (rs := [19]) (by kernel_rfl) (by simp) ?_
                refine AllReadyH.cons (o := _) rfl (fun K' hK => ?_) AllReadyH.nil
                go_simp
                refine (SubtractN y zf2 (ratOf y) (flo (ratOf y)) 250 (250 + 1) _ NY.out HF2.out.num (by omega)).mono ?_
                rintro e9 wk96 ⟨zy, rfl, hzy, c6⟩
                rw [HQY.out] at hzy
                have HY := Lib.hid hzy
                clear hzy
                replace ex := ex.keep0 c6
                replace ey := ey.keep0 c6
                replace bR := bR.keep0 c6
                replace bP := bP.keep0 c6
                replace hcz := hcz.then c6
                clear c6
                go_wp2_with fail
                refine hK.out _ _ ?_ (fun hHeld => ?_)
                · exact ⟨ex.c0, ex.c1, ex.c2, ey.c0, ey.c1, ey.c2⟩
                clear hK K'
                try simp only [Act.put, List.setIfInBounds_toArray, List.set_cons_zero, List.set_cons_succ]
                refine wpAnyH_ready (rs := [22]) (by kernel_rfl) (by simp) ?_
                refine AllReadyH.cons (o := _) rfl (fun K' hK => ?_) AllReadyH.nil
                have bPc0 := bP.c0
                have bPc1 := bP.c1
                have bPc2 := bP.c2
                have bPf0 := bP.f0
                have bPf1 := bP.f1
                have bPf2 := bP.f2
                have bPl := bP.lt
                go_simp
                refine hK.out _ _ ?_ (fun hHeld => ?_)
                · exact ⟨(ex.st2 (by omega) _ _ _).c0, (ex.st2 (by omega) _ _ _).c1, (ex.st2 (by omega) _ _ _).c2, (ey.st2 (by omega) _ _ _).c0, (ey.st2 (by omega) _ _ _).c1, (ey.st2 (by omega) _ _ _).c2⟩
                clear hK K'
                try simp only [Act.put, List.setIfInBounds_toArray, List.set_cons_zero, List.set_cons_succ]
                clear bPc0 bPc1 bPc2 bPf0 bPf1 bPf2
                replace ex := ex.st2 (k := gP) (by omega) (.bool zx.neg) (.string zx.num) (.string zx.den)
                replace ey := ey.st2 (k := gP) (by omega) (.bool zx.neg) (.string zx.num) (.string zx.den)
                replace bR := bR.st2 (k := gP) (by omega) (.bool zx.neg) (.string zx.num) (.string zx.den)
                replace bP := bP.store (.bool zx.neg) (.string zx.num) (.string zx.den)
                replace hcz := hcz.store3 (.inr laP) (.bool zx.neg) (.string zx.num) (.string zx.den)
                clear bPl
                obtain ⟨ws97, HWws97⟩ := name_it (((wk96.setCell ⟨gP, 0, none⟩ (.bool zx.neg)).setCell ⟨gP, 1, none⟩ (.string zx.num)).setCell ⟨gP, 2, none⟩ (.string zx.den))
                rw [HWws97.out] at ex ey bR bP hcz hHeld ⊢
                refine wpAnyH_ready (rs := [23]) (by kernel_rfl) (by simp) ?_
                refine AllReadyH.cons (o := _) rfl (fun K' hK => ?_) AllReadyH.nil
                have bRc0 := bR.c0
                have bRc1 := bR.c1
                have bRc2 := bR.c2
                have bRf0 := bR.f0
                have bRf1 := bR.f1
                have bRf2 := bR.f2
                have bRl := bR.lt
                go_simp
                refine hK.out _ _ ?_ (fun hHeld => ?_)
                · exact ⟨(ex.st2 (by omega) _ _ _).c0, (ex.st2 (by omega) _ _ _).c1, (ex.st2 (by omega) _ _ _).c2, (ey.st2 (by omega) _ _ _).c0, (ey.st2 (by omega) _ _ _).c1, (ey.st2 (by omega) _ _ _).c2⟩
                clear hK K'
                try simp only [Act.put, List.setIfInBounds_toArray, List.set_cons_zero, List.set_cons_succ]
                clear bRc0 bRc1 bRc2 bRf0 bRf1 bRf2
                replace ex := ex.st2 (k := gR) (by omega) (.bool zy.neg) (.string zy.num) (.string zy.den)
                replace ey := ey.st2 (k := gR) (by omega) (.bool zy.neg) (.string zy.num) (.string zy.den)
                replace bR := bR.store (.bool zy.neg) (.string zy.num) (.string zy.den)
                replace bP := bP.st2 (k := gR) (by omega) (.bool zy.neg) (.string zy.num) (.string zy.den)
                replace hcz := hcz.store3 (.inr laR) (.bool zy.neg) (.string zy.num) (.string zy.den)
                clear bRl
                obtain ⟨ws98, HWws98⟩ := name_it (((ws97.setCell ⟨gR, 0, none⟩ (.bool zy.neg)).setCell ⟨gR, 1, none⟩ (.string zy.num)).setCell ⟨gR, 2, none⟩ (.string zy.den))
                rw [HWws98.out] at ex ey bR bP hcz hHeld ⊢
                refine wpAnyH_done (by kernel_rfl) ?_ _
                go_wp2_with fail
                go_meet
                exact ⟨⟨_, _, zx, zy, rfl, rfl, HX.out, HY.out, bP, bR⟩, hcz⟩
              refine AllReadyH.cons (o := _) rfl (fun K' hK => ?_) AllReadyH.nil
              go_simp
              refine hK.out _ _ ?_ (fun hHeld => ?_)
              · exact ⟨(ex.keep0 ((Chg.refl [] _).alloc _)).c0, (ex.keep0 ((Chg.refl [] _).alloc _)).c1, (ex.keep0 ((Chg.refl [] _).alloc _)).c2, (ey.keep0 ((Chg.refl [] _).alloc _)).c0, (ey.keep0 ((Chg.refl [] _).alloc _)).c1, (ey.keep0 ((Chg.refl [] _).alloc _)).c2⟩
              clear hK K'
              try simp only [Act.put, List.setIfInBounds_toArray, List.set_cons_zero, List.set_cons_succ]
              have bP := Blk3.alloc wq83 (.bool false) (.string ⟨#[]⟩) (.string ⟨#[]⟩) 38
              have c9 : Chg [] wq83 (wq83.alloc (.cells #[.bool false, .string ⟨#[]⟩, .string ⟨#[]⟩] 38)) := (Chg.refl _ _).alloc _
              have laP : _ ≤ wq83.heap.size := hcz.size
              have lxP : _ < wq83.heap.size := ex.lt
              have lRP : _ < wq83.heap.size := bR.lt
              replace ex := ex.keep0 c9
              replace ey := ey.keep0 c9
              replace bR := bR.keep0 c9
              replace hcz := hcz.then c9
              clear c9
              obtain ⟨wq99, HWwq99⟩ := name_it (wq83.alloc (.cells #[.bool false, .string ⟨#[]⟩, .string ⟨#[]⟩] 38))
              obtain ⟨gP, HGgP⟩ := name_it wq83.heap.size
              rw [HWwq99.out] at ex ey bR bP hcz hHeld ⊢
              rw [HGgP.out] at bP laP lxP lRP ⊢
              refine wpAnyH_ready (rs := [9]) (by kernel_rfl) (by simp) ?_
              refine AllReadyH.cons (o := _) rfl (fun K' hK => ?_) AllReadyH.nil
              go_simp
              refine (SubtractN x zf1 (ratOf x) (flo (ratOf x)) 250 (250 + 1) _ NX.out HF1.out.num (by omega)).mono ?_
              rintro e9 wk100 ⟨zx, rfl, hzx, c6⟩
              rw [HQX.out] at hzx
              have HX := Lib.hid hzx
              clear hzx
              replace ex := ex.keep0 c6
              replace ey := ey.keep0 c6
              replace bR := bR.keep0 c6
              replace bP := bP.keep0 c6
              replace hcz := hcz.then c6
              clear c6
              go_wp2_with fail
              refine hK.out _ _ ?_ (fun hHeld => ?_)
              · exact ⟨ex.c0, ex.c1, ex.c2, ey.c0, ey.c1, ey.c2⟩
              clear hK K'
              try simp only [Act.put, List.setIfInBounds_toArray, List.set_cons_zero, List.set_cons_succ]
              refine wpAnyH_ready (rs := [18]) (by kernel_rfl) (by simp) ?_
              refine AllReadyH.cons (o := _) rfl (fun K' hK => ?_) AllReadyH.nil
              go_simp
              refine (FloorN y (ratOf y) 250 _ NY.out (by omega)).mono ?_
              rintro e9 wk101 ⟨zf2, rfl, hzf2, c6⟩
              have HF2 := Lib.hid hzf2
              clear hzf2
              replace ex := ex.keep0 c6
              replace ey := ey.keep0 c6
              replace bR := bR.keep0 c6
              replace bP := bP.keep0 c6
              replace hcz := hcz.then c6
              clear c6
              go_wp2_with fail
              refine hK.out _ _ ?_ (fun hHeld => ?_)
              · exact ⟨ex.c0, ex.c1, ex.c2, ey.c0, ey.c1, ey.c2⟩
              clear hK K'
              try simp only [Act.put, List.setIfInBounds_toArray, List.set_cons_zero, List.set_cons_succ]
              refine wpAnyH_ready (rs := [19]) (by kernel_rfl) (by simp) ?_
              refine AllReadyH.cons (o := _) rfl (fun K' hK => ?_) AllReadyH.nil
              go_simp
              refine (SubtractN y zf2 (ratOf y) (flo (ratOf y)) 250 (250 + 1) _ NY.out HF2.out.num (by omega)).mono ?_
              rintro e9 wk102 ⟨zy, rfl, hzy, c6⟩
              rw [HQY.out] at hzy
              have HY := Lib.hid hzy
              clear hzy
              replace ex := ex.keep0 c6
              replace ey := ey.keep0 c6
              replace bR := bR.keep0 c6
              replace bP := bP.keep0 c6
              replace hcz := hcz.then c6
              clear c6
              go_wp2_with fail
              refine hK.out _ _ ?_ (fun hHeld => ?_)
              · exact ⟨ex.c0, ex.c1, ex.c2, ey.c0, ey.c1, ey.c2⟩
              clear hK K'
              try simp only [Act.put, List.setIfInBounds_toArray, List.set_cons_zero, List.set_cons_succ]
              refine wpAnyH_ready (rs := [22]) (by kernel_rfl) (by simp) ?_
              refine AllReadyH.cons (o := _) rfl (fun K' hK => ?_) AllReadyH.nil
              have bPc0 := bP.c0
              have bPc1 := bP.c1
              have bPc2 := bP.c2
              have bPf0 := bP.f0
              have bPf1 := bP.f1
              have bPf2 := bP.f2
              have bPl := bP.lt
              go_simp
              refine hK.out _ _ ?_ (fun hHeld => ?_)
              · exact ⟨(ex.st2 (by omega) _ _ _).c0, (ex.st2 (by omega) _ _ _).c1, (ex.st2 (by omega) _ _ _).c2, (ey.st2 (by omega) _ _ _).c0, (ey.st2 (by omega) _ _ _).c1, (ey.st2 (by omega) _ _ _).c2⟩
              clear hK K'
              try simp only [Act.put, List.setIfInBounds_toArray, List.set_cons_zero, List.set_cons_succ]
              clear bPc0 bPc1 bPc2 bPf0 bPf1 bPf2
              replace ex := ex.st2 (k := gP) (by omega) (.bool zx.neg) (.string zx.num) (.string zx.den)
              replace ey := ey.st2 (k := gP) (by omega) (.bool zx.neg) (.string zx.num) (.string zx.den)
              replace bR := bR.st2 (k := gP) (by omega) (.bool zx.neg) (.string zx.num) (.string zx.den)
              replace bP := bP.store (.bool zx.neg) (.string zx.num) (.string zx.den)
              replace hcz := hcz.store3 (.inr laP) (.bool zx.neg) (.string zx.num) (.string zx.den)
              clear bPl
              obtain ⟨ws103, HWws103⟩ := name_it (((wk102.setCell ⟨gP, 0, none⟩ (.bool zx.neg)).setCell ⟨gP, 1, none⟩ (.string zx.num)).setCell ⟨gP, 2, none⟩ (.string zx.den))
              rw [HWws103.out] at ex ey bR bP hcz hHeld ⊢
              refine wpAnyH_ready (rs := [23]) (by kernel_rfl) (by simp) ?_
              refine AllReadyH.cons (o := _) rfl (fun K' hK => ?_) AllReadyH.nil
              have bRc0 := bR.c0
              have bRc1 := bR.c1
              have bRc2 := bR.c2
              have bRf0 := bR.f0
              have bRf1 := bR.f1
              have bRf2 := bR.f2
              have bRl := bR.lt
              go_simp
              refine hK.out _ _ ?_ (fun hHeld => ?_)
              · exact ⟨(ex.st2 (by omega) _ _ _).c0, (ex.st2 (by omega) _ _ _).c1, (ex.st2 (by omega) _ _ _).c2, (ey.st2 (by omega) _ _ _).c0, (ey.st2 (by omega) _ _ _).c1, (ey.st2 (by omega) _ _ _).c2⟩
              clear hK K'
              try simp only [Act.put, List.setIfInBounds_toArray, List.set_cons_zero, List.set_cons_succ]
              clear bRc0 bRc1 bRc2 bRf0 bRf1 bRf2
              replace ex := ex.st2 (k := gR) (by omega) (.bool zy.neg) (.string zy.num) (.string zy.den)
              replace ey := ey.st2 (k := gR) (by omega) (.bool zy.neg) (.string zy.num) (.string zy.den)
              replace bR := bR.store (.bool zy.neg) (.string zy.num) (.string zy.den)
              replace bP := bP.st2 (k := gR) (by omega) (.bool zy.neg) (.string zy.num) (.string zy.den)
              replace hcz := hcz.store3 (.inr laR) (.bool zy.neg) (.string zy.num) (.string zy.den)
              clear bRl
              obtain ⟨ws104, HWws104⟩ := name_it (((ws103.setCell ⟨gR, 0, none⟩ (.bool zy.neg)).setCell ⟨gR, 1, none⟩ (.string zy.num)).setCell ⟨gR, 2, none⟩ (.string zy.den))
              rw [HWws104.out] at ex ey bR bP hcz hHeld ⊢
              refine wpAnyH_done (by kernel_rfl) ?_ _
              go_wp2_with fail
              go_meet
              exact ⟨⟨_, _, zx, zy, rfl, rfl, HX.out, HY.out, bP, bR⟩, hcz⟩
            refine AllReadyH.cons (o := _) rfl (fun K' hK => ?_) ?_
            · go_simp
              refine hK.out _ _ ?_ (fun hHeld => ?_)
              · exact ⟨(ex.keep0 ((Chg.refl [] _).alloc _)).c0, (ex.keep0 ((Chg.refl [] _).alloc _)).c1, (ex.keep0 ((Chg.refl [] _).alloc _)).c2, (ey.keep0 ((Chg.refl [] _).alloc _)).c0, (ey.keep0 ((Chg.refl [] _).alloc _)).c1, (ey.keep0 ((Chg.refl [] _).alloc _)).c2⟩
              clear hK K'
              try simp only [Act.put, List.setIfInBounds_toArray, List.set_cons_zero, List.set_cons_succ]
              have bP := Blk3.alloc wz (.bool false) (.string ⟨#[]⟩) (.string ⟨#[]⟩) 38
              have c9 : Chg [] wz (wz.alloc (.cells #[.bool false, .string ⟨#[]⟩, .string ⟨#[]⟩] 38)) := (Chg.refl _ _).alloc _
              have laP : _ ≤ wz.heap.size := hcz.size
              have lxP : _ < wz.heap.size := ex.lt
              replace ex := ex.keep0 c9
              replace ey := ey.keep0 c9
              replace hcz := hcz.then c9
              clear c9
              obtain ⟨wq105, HWwq105⟩ := name_it (wz.alloc (.cells #[.bool false, .string ⟨#[]⟩, .string ⟨#[]⟩] 38))
              obtain ⟨gP, HGgP⟩ := name_it wz.heap.size
              rw [HWwq105.out] at ex ey bP hcz hHeld ⊢
              rw [HGgP.out] at bP laP lxP ⊢
              refine wpAnyH_ready (rs := [8, 21]) (by kernel_rfl) (by simp) ?_
              refine AllReadyH.cons (o := _) rfl (fun K' hK => ?_) ?_
              · go_simp
                refine (FloorN x (ratOf x) 250 _ NX.out (by omega)).mono ?_
                rintro e9 wk106 ⟨zf1, rfl, hzf1, c6⟩
                have HF1 := Lib.hid hzf1
                clear hzf1
                replace ex := ex.keep0 c6
                replace ey := ey.keep0 c6
                replace bP := bP.keep0 c6
                replace hcz := hcz.then c6
                clear c6
                go_wp2_with fail
                refine hK.out _ _ ?_ (fun hHeld => ?_)
                · exact ⟨ex.c0, ex.c1, ex.c2, ey.c0, ey.c1, ey.c2⟩
                clear hK K'
                try simp only [Act.put, List.setIfInBounds_toArray, List.set_cons_zero, List.set_cons_succ]
                refine wpAnyH_ready (rs := [9, 21]) (by kernel_rfl) (by simp) ?_
                refine AllReadyH.cons (o := _) rfl (fun K' hK => ?_) ?_
                · go_simp
                  refine (SubtractN x zf1 (ratOf x) (flo (ratOf x)) 250 (250 + 1) _ NX.out HF1.out.num (by omega)).mono ?_
                  rintro e9 wk107 ⟨zx, rfl, hzx, c6⟩
                  rw [HQX.out] at hzx
                  have HX := Lib.hid hzx
                  clear hzx
                  replace ex := ex.keep0 c6
                  replace ey := ey.keep0 c6
                  replace bP := bP.keep0 c6
                  replace hcz := hcz.then c6
                  clear c6
                  go_wp2_with fail
                  refine hK.out _ _ ?_ (fun hHeld => ?_)
                  · exact ⟨ex.c0, ex.c1, ex.c2, ey.c0, ey.c1, ey.c2⟩
                  clear hK K'
                  try simp only [Act.put, List.setIfInBounds_toArray, List.set_cons_zero, List.set_cons_succ]
                  refine wpAnyH_ready (rs := [18, 21]) (by kernel_rfl) (by simp) ?_
                  refine AllReadyH.cons (o := _) rfl (fun K' hK => ?_) ?_
                  · go_simp
                    refine (FloorN y (ratOf y) 250 _ NY.out (by omega)).mono ?_
                    rintro e9 wk108 ⟨zf2, rfl, hzf2, c6⟩
                    have HF2 := Lib.hid hzf2
                    clear hzf2
                    replace ex := ex.keep0 c6
                    replace ey := ey.keep0 c6
                    replace bP := bP.keep0 c6
                    replace hcz := hcz.then c6
                    clear c6
                    go_wp2_with fail
                    refine hK.out _ _ ?_ (fun hHeld => ?_)
                    · exact ⟨ex.c0, ex.c1, ex.c2, ey.c0, ey.c1, ey.c2⟩
                    clear hK K'
                    try simp only [Act.put, List.setIfInBounds_toArray, List.set_cons_zero, List.set_cons_succ]
                    refine wpAnyH_ready (rs := [19, 21]) (by kernel_rfl) (by simp) ?_
                    refine AllReadyH.cons (o := _) rfl (fun K' hK => ?_) ?_
                    · go_simp
                      refine (SubtractN y zf2 (ratOf y) (flo (ratOf y)) 250 (250 + 1) _ NY.out HF2.out.num (by omega)).mono ?_
                      rintro e9 wk109 ⟨zy, rfl, hzy, c6⟩
                      rw [HQY.out] at hzy
                      have HY := Lib.hid hzy
                      clear hzy
                      replace ex := ex.keep0 c6
                      replace ey := ey.keep0 c6
                      replace bP := bP.keep0 c6
                      replace hcz := hcz.then c6
                      clear c6
                      go_wp2_with fail
                      refine hK.out _ _ ?_ (fun hHeld => ?_)
                      · exact ⟨ex.c0, ex.c1, ex.c2, ey.c0, ey.c1, ey.c2⟩
                      clear hK K'
                      try simp only [Act.put, List.setIfInBounds_toArray, List.set_cons_zero, List.set_cons_succ]
                      refine wpAnyH_ready (rs := [21]) (by kernel_rfl) (by simp) ?_
                      refine AllReadyH.cons (o := _) rfl (fun K' hK => ?_) AllReadyH.nil
                      go_simp
                      refine hK.out _ _ ?_ (fun hHeld => ?_)
                      · exact ⟨(ex.keep0 ((Chg.refl [] _).alloc _)).c0, (ex.keep0 ((Chg.refl [] _).alloc _)).c1, (ex.keep0 ((Chg.refl [] _).alloc _)).c2, (ey.keep0 ((Chg.refl [] _).alloc _)).c0, (ey.keep0 ((Chg.refl [] _).alloc _)).c1, (ey.keep0 ((Chg.refl [] _).alloc _)).c2⟩
                      clear hK K'
                      try simp only [Act.put, List.setIfInBounds_toArray, List.set_cons_zero, List.set_cons_succ]
                      have bR := Blk3.alloc wk109 (.bool false) (.string ⟨#[]⟩) (.string ⟨#[]⟩) 38
                      have c9 : Chg [] wk109 (wk109.alloc (.cells #[.bool false, .string ⟨#[]⟩, .string ⟨#[]⟩] 38)) := (Chg.refl _ _).alloc _
                      have laR : _ ≤ wk109.heap.size := hcz.size
                      have lxR : _ < wk109.heap.size := ex.lt
                      have lPR : _ < wk109.heap.size := bP.lt
                      replace ex := ex.keep0 c9
                      replace ey := ey.keep0 c9
                      replace bP := bP.keep0 c9
                      replace hcz := hcz.then c9
                      clear c9
                      obtain ⟨wq110, HWwq110⟩ := name_it (wk109.alloc (.cells #[.bool false, .string ⟨#[]⟩, .string ⟨#[]⟩] 38))
                      obtain ⟨gR, HGgR⟩ := name_it wk109.heap.size
                      rw [HWwq110.out] at ex ey bP bR hcz hHeld ⊢
                      rw [HGgR.out] at bR laR lxR lPR ⊢
                      refine wpAnyH_ready (rs := [22]) (by kernel_rfl) (by simp) ?_
                      refine AllReadyH.cons (o := _) rfl (fun K' hK => ?_) AllReadyH.nil
                      have bPc0 := bP.c0
                      have bPc1 := bP.c1
                      have bPc2 := bP.c2
                      have bPf0 := bP.f0
                      have bPf1 := bP.f1
                      have bPf2 := bP.f2
                      have bPl := bP.lt
                      go_simp
                      refine hK.out _ _ ?_ (fun hHeld => ?_)
                      · exact ⟨(ex.st2 (by omega) _ _ _).c0, (ex.st2 (by omega) _ _ _).c1, (ex.st2 (by omega) _ _ _).c2, (ey.st2 (by omega) _ _ _).c0, (ey.st2 (by omega) _ _ _).c1, (ey.st2 (by omega) _ _ _).c2⟩
                      clear hK K'
                      try simp only [Act.put, List.setIfInBounds_toArray, List.set_cons_zero, List.set_cons_succ]
                      clear bPc0 bPc1 bPc2 bPf0 bPf1 bPf2
                      replace ex := ex.st2 (k := gP) (by omega) (.bool zx.neg) (.string zx.num) (.string zx.den)
                      replace ey := ey.st2 (k := gP) (by omega) (.bool zx.neg) (.string zx.num) (.string zx.den)
                      replace bP := bP.store (.bool zx.neg) (.string zx.num) (.string zx.den)
                      replace bR := bR.st2 (k := gP) (by omega) (.bool zx.neg) (.string zx.num) (.string zx.den)
                      replace hcz := hcz.store3 (.inr laP) (.bool zx.neg) (.string zx.num) (.string zx.den)
                      clear bPl
                      obtain ⟨ws111, HWws111⟩ := name_it (((wq110.setCell ⟨gP, 0, none⟩ (.bool zx.neg)).setCell ⟨gP, 1, none⟩ (.string zx.num)).setCell ⟨gP, 2, none⟩ (.string zx.den))
                      rw [HWws111.out] at ex ey bP bR hcz hHeld ⊢
                      refine wpAnyH_ready (rs := [23]) (by kernel_rfl) (by simp) ?_
                      refine AllReadyH.cons (o := _) rfl (fun K' hK => ?_) AllReadyH.nil
                      have bRc0 := bR.c0
                      have bRc1 := bR.c1
                      have bRc2 := bR.c2
                      have bRf0 := bR.f0
                      have bRf1 := bR.f1
                      have bRf2 := bR.f2
                      have bRl := bR.lt
                      go_simp
                      refine hK.out _ _ ?_ (fun hHeld => ?_)
                      · exact ⟨(ex.st2 (by omega) _ _ _).c0, (ex.st2 (by omega) _ _ _).c1, (ex.st2 (by omega) _ _ _).c2, (ey.st2 (by omega) _ _ _).c0, (ey.st2 (by omega) _ _ _).c1, (ey.st2 (by omega) _ _ _).c2⟩
                      clear hK K'
                      try simp only [Act.put, List.setIfInBounds_toArray, List.set_cons_zero, List.set_cons_succ]
                      clear bRc0 bRc1 bRc2 bRf0 bRf1 bRf2
                      replace ex := ex.st2 (k := gR) (by omega) (.bool zy.neg) (.string zy.num) (.string zy.den)
                      replace ey := ey.st2 (k := gR) (by omega) (.bool zy.neg) (.string zy.num) (.string zy.den)
                      replace bP := bP.st2 (k := gR) (by omega) (.bool zy.neg) (.string zy.num) (.string zy.den)
                      replace bR := bR.store (.bool zy.neg) (.string zy.num) (.string zy.den)
                      replace hcz := hcz.store3 (.inr laR) (.bool zy.neg) (.string zy.num) (.string zy.den)
                      clear bRl
                      obtain ⟨ws112, HWws112⟩ := name_it (((ws111.setCell ⟨gR, 0, none⟩ (.bool zy.neg)).setCell ⟨gR, 1, none⟩ (.string zy.num)).setCell ⟨gR, 2, none⟩ (.string zy.den))
                      rw [HWws112.out] at ex ey bP bR hcz hHeld ⊢
                      refine wpAnyH_done (by kernel_rfl) ?_ _
                      go_wp2_with fail
                      go_meet
                      exact ⟨⟨_, _, zx, zy, rfl, rfl, HX.out, HY.out, bP, bR⟩, hcz⟩
                    refine AllReadyH.cons (o := _) rfl (fun K' hK => ?_) AllReadyH.nil
                    go_simp
                    refine hK.out _ _ ?_ (fun hHeld => ?_)
                    · exact ⟨(ex.keep0 ((Chg.refl [] _).alloc _)).c0, (ex.keep0 ((Chg.refl [] _).alloc _)).c1, (ex.keep0 ((Chg.refl [] _).alloc _)).c2, (ey.keep0 ((Chg.refl [] _).alloc _)).c0, (ey.keep0 ((Chg.refl [] _).alloc _)).c1, (ey.keep0 ((Chg.refl [] _).alloc _)).c2⟩
                    clear hK K'
                    try simp only [Act.put, List.setIfInBounds_toArray, List.set_cons_zero, List.set_cons_succ]
                    have bR := Blk3.alloc wk108 (.bool false) (.string ⟨#[]⟩) (.string ⟨#[]⟩) 38
                    have c9 : Chg [] wk108 (wk108.alloc (.cells #[.bool false, .string ⟨#[]⟩, .string ⟨#[]⟩] 38)) := (Chg.refl _ _).alloc _
                    have laR : _ ≤ wk108.heap.size := hcz.size
                    have lxR : _ < wk108.heap.size := ex.lt
                    have lPR : _ < wk108.heap.size := bP.lt
                    replace ex := ex.keep0 c9
                    replace ey := ey.keep0 c9
                    replace bP := bP.keep0 c9
                    replace hcz := hcz.then c9
                    clear c9
                    obtain ⟨wq113, HWwq113⟩ := name_it (wk108.alloc (.cells #[.bool false, .string ⟨#[]⟩, .string ⟨#[]⟩] 38))
                    obtain ⟨gR, HGgR⟩ := name_it wk108.heap.size
                    rw [HWwq113.out] at ex ey bP bR hcz hHeld ⊢
                    rw [HGgR.out] at bR laR lxR lPR ⊢
                    refine wpAnyH_ready (rs := [19]) (by kernel_rfl) (by simp) ?_
                    refine AllReadyH.cons (o := _) rfl (fun K' hK => ?_) AllReadyH.nil
                    go_simp
                    refine (SubtractN y zf2 (ratOf y) (flo (ratOf y)) 250 (250 + 1) _ NY.out HF2.out.num (by omega)).mono ?_
                    rintro e9 wk114 ⟨zy, rfl, hzy, c6⟩
                    rw [HQY.out] at hzy
                    have HY := Lib.hid hzy
                    clear hzy
                    replace ex := ex.keep0 c6
                    replace ey := ey.keep0 c6
                    replace bP := bP.keep0 c6
                    replace bR := bR.keep0 c6
                    replace hcz := hcz.then c6
                    clear c6
                    go_wp2_with fail
                    refine hK.out _ _ ?_ (fun hHeld => ?_)
                    · exact ⟨ex.c0, ex.c1, ex.c2, ey.c0, ey.c1, ey.c2⟩
                    clear hK K'
                    try simp only [Act.put, List.setIfInBounds_toArray, List.set_cons_zero, List.set_cons_succ]
                    refine wpAnyH_ready (rs := [22]) (by kernel_rfl) (by simp) ?_
                    refine AllReadyH.cons (o := _) rfl (fun K' hK => ?_) AllReadyH.nil
                    have bPc0 := bP.c0
                    have bPc1 := bP.c1
                    have bPc2 := bP.c2
                    have bPf0 := bP.f0
                    have bPf1 := bP.f1
                    have bPf2 := bP.f2
                    have bPl := bP.lt
                    go_simp
                    refine hK.out _ _ ?_ (fun hHeld => ?_)
                    · exact ⟨(ex.st2 (by omega) _ _ _).c0, (ex.st2 (by omega) _ _ _).c1, (ex.st2 (by omega) _ _ _).c2, (ey.st2 (by omega) _ _ _).c0, (ey.st2 (by omega) _ _ _).c1, (ey.st2 (by omega) _ _ _).c2⟩
                    clear hK K'
                    try simp only [Act.put, List.setIfInBounds_toArray, List.set_cons_zero, List.set_cons_succ]
                    clear bPc0 bPc1 bPc2 bPf0 bPf1 bPf2
                    replace ex := ex.st2 (k := gP) (by omega) (.bool zx.neg) (.string zx.num) (.string zx.den)
                    replace ey := ey.st2 (k := gP) (by omega) (.bool zx.neg) (.string zx.num) (.string zx.den)
                    replace bP := bP.store (.bool zx.neg) (.string zx.num) (.string zx.den)
                    replace bR := bR.st2 (k := gP) (by omega) (.bool zx.neg) (.string zx.num) (.string zx.den)
                    replace hcz := hcz.store3 (.inr laP) (.bool zx.neg) (.string zx.num) (.string zx.den)
                    clear bPl
                    obtain ⟨ws115, HWws115⟩ := name_it (((wk114.setCell ⟨gP, 0, none⟩ (.bool zx.neg)).setCell ⟨gP, 1, none⟩ (.string zx.num)).setCell ⟨gP, 2, none⟩ (.string zx.den))
                    rw [HWws115.out] at ex ey bP bR hcz hHeld ⊢
                    refine wpAnyH_ready (rs := [23]) (by kernel_rfl) (by simp) ?_
                    refine AllReadyH.cons (o := _) rfl (fun K' hK => ?_) AllReadyH.nil
                    have bRc0 := bR.c0
                    have bRc1 := bR.c1
                    have bRc2 := bR.c2
                    have bRf0 := bR.f0
                    have bRf1 := bR.f1
                    have bRf2 := bR.f2
                    have bRl := bR.lt
                    go_simp
                    refine hK.out _ _ ?_ (fun hHeld => ?_)
                    · exact ⟨(ex.st2 (by omega) _ _ _).c0, (ex.st2 (by omega) _ _ _).c1, (ex.st2 (by omega) _ _ _).c2, (ey.st2 (by omega) _ _ _).c0, (ey.st2 (by omega) _ _ _).c1, (ey.st2 (by omega) _ _ _).c2⟩
                    clear hK K'
                    try simp only [Act.put, List.setIfInBounds_toArray, List.set_cons_zero, List.set_cons_succ]
                    clear bRc0 bRc1 bRc2 bRf0 bRf1 bRf2
                    replace ex := ex.st2 (k := gR) (by omega) (.bool zy.neg) (.string zy.num) (.string zy.den)
                    replace ey := ey.st2 (k := gR) (by omega) (.bool zy.neg) (.string zy.num) (.string zy.den)
                    replace bP := bP.st2 (k := gR) (by omega) (.bool zy.neg) (.string zy.num) (.string zy.den)
                    replace bR := bR.store (.bool zy.neg) (.string zy.num) (.string zy.den)
                    replace hcz := hcz.store3 (.inr laR) (.bool zy.neg) (.string zy.num) (.string zy.den)
                    clear bRl
                    obtain ⟨ws116, HWws116⟩ := name_it (((ws115.setCell ⟨gR, 0, none⟩ (.bool zy.neg)).setCell ⟨gR, 1, none⟩ (.string zy.num)).setCell ⟨gR, 2, none⟩ (.string zy.den))
                    rw [HWws116.out] at ex ey bP bR hcz hHeld ⊢
                    refine wpAnyH_done (by kernel_rfl) ?_ _
                    go_wp2_with fail
                    go_meet
                    exact ⟨⟨_, _, zx, zy, rfl, rfl, HX.out, HY.out, bP, bR⟩, hcz⟩
                  refine AllReadyH.cons (o := _) rfl (fun K' hK => ?_) AllReadyH.nil
                  go_simp
                  refine hK.out _ _ ?_ (fun hHeld => ?_)
                  · exact ⟨(ex.keep0 ((Chg.refl [] _).alloc _)).c0, (ex.keep0 ((Chg.refl [] _).alloc _)).c1, (ex.keep0 ((Chg.refl [] _).alloc _)).c2, (ey.keep0 ((Chg.refl [] _).alloc _)).c0, (ey.keep0 ((Chg.refl [] _).alloc _)).c1, (ey.keep0 ((Chg.refl [] _).alloc _)).c2⟩
                  clear hK K'
                  try simp only [Act.put, List.setIfInBounds_toArray, List.set_cons_zero, List.set_cons_succ]
                  have bR := Blk3.alloc wk107 (.bool false) (.string ⟨#[]⟩) (.string ⟨#[]⟩) 38
                  have c9 : Chg [] wk107 (wk107.alloc (.cells #[.bool false, .string ⟨#[]⟩, .string ⟨#[]⟩] 38)) := (Chg.refl _ _).alloc _
                  have laR : _ ≤ wk107.heap.size := hcz.size
                  have lxR : _ < wk107.heap.size := ex.lt
                  have lPR : _ < wk107.heap.size := bP.lt
                  replace ex := ex.keep0 c9
                  replace ey := ey.keep0 c9
                  replace bP := bP.keep0 c9
                  replace hcz := hcz.then c9
                  clear c9
                  obtain ⟨wq117, HWwq117⟩ := name_it (wk107.alloc (.cells #[.bool false, .string ⟨#[]⟩, .string ⟨#[]⟩] 38))
                  obtain ⟨gR, HGgR⟩ := name_it wk107.heap.size
                  rw [HWwq117.out] at ex ey bP bR hcz hHeld ⊢
                  rw [HGgR.out] at bR laR lxR lPR ⊢
                  refine wpAnyH_ready (rs := [18]) (by kernel_rfl) (by simp) ?_
                  refine AllReadyH.cons (o := _) rfl (fun K' hK => ?_) AllReadyH.nil
                  go_simp
                  refine (FloorN y (ratOf y) 250 _ NY.out (by omega)).mono ?_
                  rintro e9 wk118 ⟨zf2, rfl, hzf2, c6⟩
                  have HF2 := Lib.hid hzf2
                  clear hzf2
                  replace ex := ex.keep0 c6
                  replace ey := ey.keep0 c6
                  replace bP := bP.keep0 c6
                  replace bR := bR.keep0 c6
                  replace hcz := hcz.then c6
                  clear c6
                  go_wp2_with fail
                  refine hK.out _ _ ?_ (fun hHeld => ?_)
                  · exact ⟨ex.c0, ex.c1, ex.c2, ey.c0, ey.c1, ey.c2⟩
                  clear hK K'
                  try simp only [Act.put, List.setIfInBounds_toArray, List.set_cons_zero, List.set_cons_succ]
                  refine wpAnyH_ready (rs := [19]) (by kernel_rfl) (by simp) ?_
                  refine AllReadyH.cons (o := _) rfl (fun K' hK => ?_) AllReadyH.nil
                  go_simp
                  refine (SubtractN y zf2 (ratOf y) (flo (ratOf y)) 250 (250 + 1) _ NY.out HF2.out.num (by omega)).mono ?_
                  rintro e9 wk119 ⟨zy, rfl, hzy, c6⟩
                  rw [HQY.out] at hzy
                  have HY := Lib.hid hzy
                  clear hzy
                  replace ex := ex.keep0 c6
                  replace ey := ey.keep0 c6
                  replace bP := bP.keep0 c6
                  replace bR := bR.keep0 c6
                  replace hcz := hcz.then c6
                  clear c6
                  go_wp2_with fail
                  refine hK.out _ _ ?_ (fun hHeld => ?_)
                  · exact ⟨ex.c0, ex.c1, ex.c2, ey.c0, ey.c1, ey.c2⟩
                  clear hK K'
                  try simp only [Act.put, List.setIfInBounds_toArray, List.set_cons_zero, List.set_cons_succ]
                  refine wpAnyH_ready (rs := [22]) (by kernel_rfl) (by simp) ?_
                  refine AllReadyH.cons (o := _) rfl (fun K' hK => ?_) AllReadyH.nil
                  have bPc0 := bP.c0
                  have bPc1 := bP.c1
                  have bPc2 := bP.c2
                  have bPf0 := bP.f0
                  have bPf1 := bP.f1
                  have bPf2 := bP.f2
                  have bPl := bP.lt
                  go_simp
                  refine hK.out _ _ ?_ (fun hHeld => ?_)
                  · exact ⟨(ex.st2 (by omega) _ _ _).c0, (ex.st2 (by omega) _ _ _).c1, (ex.st2 (by omega) _ _ _).c2, (ey.st2 (by omega) _ _ _).c0, (ey.st2 (by omega) _ _ _).c1, (ey.st2 (by omega) _ _ _).c2⟩
                  clear hK K'
                  try simp only [Act.put, List.setIfInBounds_toArray, List.set_cons_zero, List.set_cons_succ]
                  clear bPc0 bPc1 bPc2 bPf0 bPf1 bPf2
                  replace ex := ex.st2 (k := gP) (by omega) (.bool zx.neg) (.string zx.num) (.string zx.den)
                  replace ey := ey.st2 (k := gP) (by omega) (.bool zx.neg) (.string zx.num) (.string zx.den)
                  replace bP := bP.store (.bool zx.neg) (.string zx.num) (.string zx.den)
                  replace bR := bR.st2 (k := gP) (by omega) (.bool zx.neg) (.string zx.num) (.string zx.den)
                  replace hcz := hcz.store3 (.inr laP) (.bool zx.neg) (.string zx.num) (.string zx.den)
                  clear bPl
                  obtain ⟨ws120, HWws120⟩ := name_it (((wk119.setCell ⟨gP, 0, none⟩ (.bool zx.neg)).setCell ⟨gP, 1, none⟩ (.string zx.num)).setCell ⟨gP, 2, none⟩ (.string zx.den))
                  rw [HWws120.out] at ex ey bP bR hcz hHeld ⊢
                  refine wpAnyH_ready (rs := [23]) (by kernel_rfl) (by simp) ?_
                  refine AllReadyH.cons (o := _) rfl (fun K' hK => ?_) AllReadyH.nil
                  have bRc0 := bR.c0
                  have bRc1 := bR.c1
                  have bRc2 := bR.c2
                  have bRf0 := bR.f0
                  have bRf1 := bR.f1
                  have bRf2 := bR.f2
                  have bRl := bR.lt
                  go_simp
                  refine hK.out _ _ ?_ (fun hHeld => ?_)
                  · exact ⟨(ex.st2 (by omega) _ _ _).c0, (ex.st2 (by omega) _ _ _).c1, (ex.st2 (by omega) _ _ _).c2, (ey.st2 (by omega) _ _ _).c0, (ey.st2 (by omega) _ _ _).c1, (ey.st2 (by omega) _ _ _).c2⟩
                  clear hK K'
                  try simp only [Act.put, List.setIfInBounds_toArray, List.set_cons_zero, List.set_cons_succ]
                  clear bRc0 bRc1 bRc2 bRf0 bRf1 bRf2
                  replace ex := ex.st2 (k := gR) (by omega) (.bool zy.neg) (.string zy.num) (.string zy.den)
                  replace ey := ey.st2 (k := gR) (by omega) (.bool zy.neg) (.string zy.num) (.string zy.den)
                  replace bP := bP.st2 (k := gR) (by omega) (.bool zy.neg) (.string zy.num) (.string zy.den)
                  replace bR := bR.store (.bool zy.neg) (.string zy.num) (.string zy.den)
                  replace hcz := hcz.store3 (.inr laR) (.bool zy.neg) (.string zy.num) (.string zy.den)
                  clear bRl
                  obtain ⟨ws121, HWws121⟩ := name_it (((ws120.setCell ⟨gR, 0, none⟩ (.bool zy.neg)).setCell ⟨gR, 1, none⟩ (.string zy.num)).setCell ⟨gR, 2, none⟩ (.string zy.den))
                  rw [HWws121.out] at ex ey bP bR hcz hHeld ⊢
                  refine wpAnyH_done (by kernel_rfl) ?_ _
                  go_wp2_with fail
                  go_meet
                  exact ⟨⟨_, _, zx, zy, rfl, rfl, HX.out, HY.out, bP, bR⟩, hcz⟩
                refine AllReadyH.cons (o := _) rfl (fun K' hK => ?_) AllReadyH.nil
                go_simp
                refine hK.out _ _ ?_ (fun hHeld => ?_)
                · exact ⟨(ex.keep0 ((Chg.refl [] _).alloc _)).c0, (ex.keep0 ((Chg.refl [] _).alloc _)).c1, (ex.keep0 ((Chg.refl [] _).alloc _)).c2, (ey.keep0 ((Chg.refl [] _).alloc _)).c0, (ey.keep0 ((Chg.refl [] _).alloc _)).c1, (ey.keep0 ((Chg.refl [] _).alloc _)).c2⟩
                clear hK K'
                try simp only [Act.put, List.setIfInBounds_toArray, List.set_cons_zero, List.set_cons_succ]
                have bR := Blk3.alloc wk106 (.bool false) (.string ⟨#[]⟩) (.string ⟨#[]⟩) 38
                have c9 : Chg [] wk106 (wk106.alloc (.cells #[.bool false, .string ⟨#[]⟩, .string ⟨#[]⟩] 38)) := (Chg.refl _ _).alloc _
                have laR : _ ≤ wk106.heap.size := hcz.size
                have lxR : _ < wk106.heap.size := ex.lt
                have lPR : _ < wk106.heap.size := bP.lt
                replace ex := ex.keep0 c9
                replace ey := ey.keep0 c9
                replace bP := bP.keep0 c9
                replace hcz := hcz.then c9
                clear c9
                obtain ⟨wq122, HWwq122⟩ := name_it (wk106.alloc (.cells #[.bool false, .string ⟨#[]⟩, .string ⟨#[]⟩] 38))
                obtain ⟨gR, HGgR⟩ := name_it wk106.heap.size
                rw [HWwq122.out] at ex ey bP bR hcz hHeld ⊢
                rw [HGgR.out] at bR laR lxR lPR ⊢
                refine wpAnyH_ready (rs := [9]) (by kernel_rfl) (by simp) ?_
                refine AllReadyH.cons (o := _) rfl (fun K' hK => ?_) AllReadyH.nil
                go_simp
                refine (SubtractN x zf1 (ratOf x) (flo (ratOf x)) 250 (250 + 1) _ NX.out HF1.out.num (by omega)).mono ?_
                rintro e9 wk123 ⟨zx, rfl, hzx, c6⟩
                rw [HQX.out] at hzx
                have HX := Lib.hid hzx
                clear hzx
                replace ex := ex.keep0 c6
                replace ey := ey.keep0 c6
                replace bP := bP.keep0 c6
                replace bR := bR.keep0 c6
                replace hcz := hcz.then c6
                clear c6
                go_wp2_with fail
                refine hK.out _ _ ?_ (fun hHeld => ?_)
                · exact ⟨ex.c0, ex.c1, ex.c2, ey.c0, ey.c1, ey.c2⟩
                clear hK K'
                try simp only [Act.put, List.setIfInBounds_toArray, List.set_cons_zero, List.set_cons_succ]
                refine wpAnyH_ready (rs := [18]) (by kernel_rfl) (by simp) ?_
                refine AllReadyH.cons (o := _) rfl (fun K' hK => ?_) AllReadyH.nil
                go_simp
                refine (FloorN y (ratOf y) 250 _ NY.out (by omega)).mono ?_
                rintro e9 wk124 ⟨zf2, rfl, hzf2, c6⟩
                have HF2 := Lib.hid hzf2
                clear hzf2
                replace ex := ex.keep0 c6
                replace ey := ey.keep0 c6
                replace bP := bP.keep0 c6
                replace bR := bR.keep0 c6
                replace hcz := hcz.then c6
                clear c6
                go_wp2_with fail
                refine hK.out _ _ ?_ (fun hHeld => ?_)
                · exact ⟨ex.c0, ex.c1, ex.c2, ey.c0, ey.c1, ey.c2⟩
                clear hK K'
                try simp only [Act.put, List.setIfInBounds_toArray, List.set_cons_zero, List.set_cons_succ]
                refine wpAnyH_ready (rs := [19]) (by kernel_rfl) (by simp) ?_
                refine AllReadyH.cons (o := _) rfl (fun K' hK => ?_) AllReadyH.nil
                go_simp
                refine (SubtractN y zf2 (ratOf y) (flo (ratOf y)) 250 (250 + 1) _ NY.out HF2.out.num (by omega)).mono ?_
                rintro e9 wk125 ⟨zy, rfl, hzy, c6⟩
                rw [HQY.out] at hzy
                have HY := Lib.hid hzy
                clear hzy
                replace ex := ex.keep0 c6
                replace ey := ey.keep0 c6
                replace bP := bP.keep0 c6
                replace bR := bR.keep0 c6
                replace hcz := hcz.then c6
                clear c6
                go_wp2_with fail
                refine hK.out _ _ ?_ (fun hHeld => ?_)
                · exact ⟨ex.c0, ex.c1, ex.c2, ey.c0, ey.c1, ey.c2⟩
                clear hK K'
                try simp only [Act.put, List.setIfInBounds_toArray, List.set_cons_zero, List.set_cons_succ]
                refine wpAnyH_ready (rs := [22]) (by kernel_rfl) (by simp) ?_
                refine AllReadyH.cons (o := _) rfl (fun K' hK => ?_) AllReadyH.nil
                have bPc0 := bP.c0
                have bPc1 := bP.c1
                have bPc2 := bP.c2
                have bPf0 := bP.f0
                have bPf1 := bP.f1
                have bPf2 := bP.f2
                have bPl := bP.lt
                go_simp
                refine hK.out _ _ ?_ (fun hHeld => ?_)
                · exact ⟨(ex.st2 (by omega) _ _ _).c0, (ex.st2 (by omega) _ _ _).c1, (ex.st2 (by omega) _ _ _).c2, (ey.st2 (by omega) _ _ _).c0, (ey.st2 (by omega) _ _ _).c1, (ey.st2 (by omega) _ _ _).c2⟩
                clear hK K'
                try simp only [Act.put, List.setIfInBounds_toArray, List.set_cons_zero, List.set_cons_succ]
                clear bPc0 bPc1 bPc2 bPf0 bPf1 bPf2
                replace ex := ex.st2 (k := gP) (by omega) (.bool zx.neg) (.string zx.num) (.string zx.den)
                replace ey := ey.st2 (k := gP) (by omega) (.bool zx.neg) (.string zx.num) (.string zx.den)
                replace bP := bP.store (.bool zx.neg) (.string zx.num) (.string zx.den)
                replace bR := bR.st2 (k := gP) (by omega) (.bool zx.neg) (.string zx.num) (.string zx.den)
                replace hcz := hcz.store3 (.inr laP) (.bool zx.neg) (.string zx.num) (.string zx.den)
                clear bPl
                obtain ⟨ws126, HWws126⟩ := name_it (((wk125.setCell ⟨gP, 0, none⟩ (.bool zx.neg)).setCell ⟨gP, 1, none⟩ (.string zx.num)).setCell ⟨gP, 2, none⟩ (.string zx.den))
                rw [HWws126.out] at ex ey bP bR hcz hHeld ⊢
                refine wpAnyH_ready (rs := [23]) (by kernel_rfl) (by simp) ?_
                refine AllReadyH.cons (o := _) rfl (fun K' hK => ?_) AllReadyH.nil
                have bRc0 := bR.c0
                have bRc1 := bR.c1
                have bRc2 := bR.c2
                have bRf0 := bR.f0
                have bRf1 := bR.f1
                have bRf2 := bR.f2
                have bRl := bR.lt
                go_simp
                refine hK.out _ _ ?_ (fun hHeld => ?_)
                · exact ⟨(ex.st2 (by omega) _ _ _).c0, (ex.st2 (by omega) _ _ _).c1, (ex.st2 (by omega) _ _ _).c2, (ey.st2 (by omega) _ _ _).c0, (ey.st2 (by omega) _ _ _).c1, (ey.st2 (by omega) _ _ _).c2⟩
                clear hK K'
                try simp only [Act.put, List.setIfInBounds_toArray, List.set_cons_zero, List.set_cons_succ]
                clear bRc0 bRc1 bRc2 bRf0 bRf1 bRf2
                replace ex := ex.st2 (k := gR) (by omega) (.bool zy.neg) (.string zy.num) (.string zy.den)
                replace ey := ey.st2 (k := gR) (by omega) (.bool zy.neg) (.string zy.num) (.string zy.den)
                replace bP := bP.st2 (k := gR) (by omega) (.bool zy.neg) (.string zy.num) (.string zy.den)
                replace bR := bR.store (.bool zy.neg) (.string zy.num) (.string zy.den)
                replace hcz := hcz.store3 (.inr laR) (.bool zy.neg) (.string zy.num) (.string zy.den)
                clear bRl
                obtain ⟨ws127, HWws127⟩ := name_it (((ws126.setCell ⟨gR, 0, none⟩ (.bool zy.neg)).setCell ⟨gR, 1, none⟩ (.string zy.num)).setCell ⟨gR, 2, none⟩ (.string zy.den))
                rw [HWws127.out] at ex ey bP bR hcz hHeld ⊢
                refine wpAnyH_done (by kernel_rfl) ?_ _
                go_wp2_with fail
                go_meet
                exact ⟨⟨_, _, zx, zy, rfl, rfl, HX.out, HY.out, bP, bR⟩, hcz⟩
              refine AllReadyH.cons (o := _) rfl (fun K' hK => ?_) AllReadyH.nil
              go_simp
              refine hK.out _ _ ?_ (fun hHeld => ?_)
              · exact ⟨(ex.keep0 ((Chg.refl [] _).alloc _)).c0, (ex.keep0 ((Chg.refl [] _).alloc _)).c1, (ex.keep0 ((Chg.refl [] _).alloc _)).c2, (ey.keep0 ((Chg.refl [] _).alloc _)).c0, (ey.keep0 ((Chg.refl [] _).alloc _)).c1, (ey.keep0 ((Chg.refl [] _).alloc _)).c2⟩
              clear hK K'
              try simp only [Act.put, List.setIfInBounds_toArray, List.set_cons_zero, List.set_cons_succ]
              have bR := Blk3.alloc wq105 (.bool false) (.string ⟨#[]⟩) (.string ⟨#[]⟩) 38
              have c9 : Chg [] wq105 (wq105.alloc (.cells #[.bool false, .string ⟨#[]⟩, .string ⟨#[]⟩] 38)) := (Chg.refl _ _).alloc _
              have laR : _ ≤ wq105.heap.size := hcz.size
              have lxR : _ < wq105.heap.size := ex.lt
              have lPR : _ < wq105.heap.size := bP.lt
              replace ex := ex.keep0 c9
              replace ey := ey.keep0 c9
              replace bP := bP.keep0 c9
              replace hcz := hcz.then c9
              clear c9
              obtain ⟨wq128, HWwq128⟩ := name_it (wq105.alloc (.cells #[.bool false, .string ⟨#[]⟩, .string ⟨#[]⟩] 38))
              obtain ⟨gR, HGgR⟩ := name_it wq105.heap.size
              rw [HWwq128.out] at ex ey bP bR hcz hHeld ⊢
              rw [HGgR.out] at bR laR lxR lPR ⊢
              refine wpAnyH_ready (rs := [8]) (by kernel_rfl) (by simp) ?_
              refine AllReadyH.cons (o := _) rfl (fun K' hK => ?_) AllReadyH.nil
              go_simp
              refine (FloorN x (ratOf x) 250 _ NX.out (by omega)).mono ?_
              rintro e9 wk129 ⟨zf1, rfl, hzf1, c6⟩
              have HF1 := Lib.hid hzf1
              clear hzf1
              replace ex := ex.keep0 c6
              replace ey := ey.keep0 c6
              replace bP := bP.keep0 c6
              replace bR := bR.keep0 c6
              replace hcz := hcz.then c6
              clear c6
              go_wp2_with fail
              refine hK.out _ _ ?_ (fun hHeld => ?_)
              · exact ⟨ex.c0, ex.c1, ex.c2, ey.c0, ey.c1, ey.c2⟩
              clear hK K'
              try simp only [Act.put, List.setIfInBounds_toArray, List.set_cons_zero, List.set_cons_succ]
              refine wpAnyH_ready (rs := [9]) (by kernel_rfl) (by simp) ?_
              refine AllReadyH.cons (o := _) rfl (fun K' hK => ?_) AllReadyH.nil
              go_simp
              refine (SubtractN x zf1 (ratOf x) (flo (ratOf x)) 250 (250 + 1) _ NX.out HF1.out.num (by omega)).mono ?_
              rintro e9 wk130 ⟨zx, rfl, hzx, c6⟩
              rw [HQX.out] at hzx
              have HX := Lib.hid hzx
              clear hzx
              replace ex := ex.keep0 c6
              replace ey := ey.keep0 c6
              replace bP := bP.keep0 c6
              replace bR := bR.keep0 c6
              replace hcz := hcz.then c6
              clear c6
              go_wp2_with fail
              refine hK.out _ _ ?_ (fun hHeld => ?_)
              · exact ⟨ex.c0, ex.c1, ex.c2, ey.c0, ey.c1, ey.c2⟩
              clear hK K'
              try simp only [Act.put, List.setIfInBounds_toArray, List.set_cons_zero, List.set_cons_succ]
              refine wpAnyH_ready (rs := [18]) (by kernel_rfl) (by simp) ?_
              refine AllReadyH.cons (o := _) rfl (fun K' hK => ?_) AllReadyH.nil
              go_simp
              refine (FloorN y (ratOf y) 250 _ NY.out (by omega)).mono ?_
              rintro e9 wk131 ⟨zf2, rfl, hzf2, c6⟩
              have HF2 := Lib.hid hzf2
              clear hzf2
              replace ex := ex.keep0 c6
              replace ey := ey.keep0 c6
              replace bP := bP.keep0 c6
              replace bR := bR.keep0 c6
              replace hcz := hcz.then c6
              clear c6
              go_wp2_with fail
              refine hK.out _ _ ?_ (fun hHeld => ?_)
              · exact ⟨ex.c0, ex.c1, ex.c2, ey.c0, ey.c1, ey.c2⟩
              clear hK K'
              try simp only [Act.put, List.setIfInBounds_toArray, List.set_cons_zero, List.set_cons_succ]
              refine wpAnyH_ready (rs := [19]) (by kernel_rfl) (by simp) ?_
              refine AllReadyH.cons (o := _) rfl (fun K' hK => ?_) AllReadyH.nil
              go_simp
              refine (SubtractN y zf2 (ratOf y) (flo (ratOf y)) 250 (250 + 1) _ NY.out HF2.out.num (by omega)).mono ?_
              rintro e9 wk132 ⟨zy, rfl, hzy, c6⟩
              rw [HQY.out] at hzy
              have HY := Lib.hid hzy
              clear hzy
              replace ex := ex.keep0 c6
              replace ey := ey.keep0 c6
              replace bP := bP.keep0 c6
              replace bR := bR.keep0 c6
              replace hcz := hcz.then c6
              clear c6
              go_wp2_with fail
              refine hK.out _ _ ?_ (fun hHeld => ?_)
              · exact ⟨ex.c0, ex.c1, ex.c2, ey.c0, ey.c1, ey.c2⟩
              clear hK K'
              try simp only [Act.put, List.setIfInBounds_toArray, List.set_cons_zero, List.set_cons_succ]
              refine wpAnyH_ready (rs := [22]) (by kernel_rfl) (by simp) ?_
              refine AllReadyH.cons (o := _) rfl (fun K' hK => ?_) AllReadyH.nil
              have bPc0 := bP.c0
              have bPc1 := bP.c1
              have bPc2 := bP.c2
              have bPf0 := bP.f0
              have bPf1 := bP.f1
              have bPf2 := bP.f2
              have bPl := bP.lt
              go_simp
              refine hK.out _ _ ?_ (fun hHeld => ?_)
              · exact ⟨(ex.st2 (by omega) _ _ _).c0, (ex.st2 (by omega) _ _ _).c1, (ex.st2 (by omega) _ _ _).c2, (ey.st2 (by omega) _ _ _).c0, (ey.st2 (by omega) _ _ _).c1, (ey.st2 (by omega) _ _ _).c2⟩
              clear hK K'
              try simp only [Act.put, List.setIfInBounds_toArray, List.set_cons_zero, List.set_cons_succ]
              clear bPc0 bPc1 bPc2 bPf0 bPf1 bPf2
              replace ex := ex.st2 (k := gP) (by omega) (.bool zx.neg) (.string zx.num) (.string zx.den)
              replace ey := ey.st2 (k := gP) (by omega) (.bool zx.neg) (.string zx.num) (.string zx.den)
              replace bP := bP.store (.bool zx.neg) (.string zx.num) (.string zx.den)
              replace bR := bR.st2 (k := gP) (by omega) (.bool zx.neg) (.string zx.num) (.string zx.den)
              replace hcz := hcz.store3 (.inr laP) (.bool zx.neg) (.string zx.num) (.string zx.den)
              clear bPl
              obtain ⟨ws133, HWws133⟩ := name_it (((wk132.setCell ⟨gP, 0, none⟩ (.bool zx.neg)).setCell ⟨gP, 1, none⟩ (.string zx.num)).setCell ⟨gP, 2, none⟩ (.string zx.den))
              rw [HWws133.out] at ex ey bP bR hcz hHeld ⊢
              refine wpAnyH_ready (rs := [23]) (by kernel_rfl) (by simp) ?_
              refine AllReadyH.cons (o := _) rfl (fun K' hK => ?_) AllReadyH.nil
              have bRc0 := bR.c0
              have bRc1 := bR.c1
              have bRc2 := bR.c2
              have bRf0 := bR.f0
              have bRf1 := bR.f1
              have bRf2 := bR.f2
              have bRl := bR.lt
              go_simp
              refine hK.out _ _ ?_ (fun hHeld => ?_)
              · exact ⟨(ex.st2 (by omega) _ _ _).c0, (ex.st2 (by omega) _ _ _).c1, (ex.st2 (by omega) _ _ _).c2, (ey.st2 (by omega) _ _ _).c0, (ey.st2 (by omega) _ _ _).c1, (ey.st2 (by omega) _ _ _).c2⟩
              clear hK K'
              try simp only [Act.put, List.setIfInBounds_toArray, List.set_cons_zero, List.set_cons_succ]
              clear bRc0 bRc1 bRc2 bRf0 bRf1 bRf2
              replace ex := ex.st2 (k := gR) (by omega) (.bool zy.neg) (.string zy.num) (.string zy.den)
              replace ey := ey.st2 (k := gR) (by omega) (.bool zy.neg) (.string zy.num) (.string zy.den)
              replace bP := bP.st2 (k := gR) (by omega) (.bool zy.neg) (.string zy.num) (.string zy.den)
              replace bR := bR.store (.bool zy.neg) (.string zy.num) (.string zy.den)
              replace hcz := hcz.store3 (.inr laR) (.bool zy.neg) (.string zy.num) (.string zy.den)
              clear bRl
              obtain ⟨ws134, HWws134⟩ := name_it (((ws133.setCell ⟨gR, 0, none⟩ (.bool zy.neg)).setCell ⟨gR, 1, none⟩ (.string zy.num)).setCell ⟨gR, 2, none⟩ (.string zy.den))
              rw [HWws134.out] at ex ey bP bR hcz hHeld ⊢
              refine wpAnyH_done (by kernel_rfl) ?_ _
              go_wp2_with fail
              go_meet
              exact ⟨⟨_, _, zx, zy, rfl, rfl, HX.out, HY.out, bP, bR⟩, hcz⟩
            refine AllReadyH.cons (o := _) rfl (fun K' hK => ?_) AllReadyH.nil
            go_simp
            refine hK.out _ _ ?_ (fun hHeld => ?_)
            · exact ⟨(ex.keep0 ((Chg.refl [] _).alloc _)).c0, (ex.keep0 ((Chg.refl [] _).alloc _)).c1, (ex.keep0 ((Chg.refl [] _).alloc _)).c2, (ey.keep0 ((Chg.refl [] _).alloc _)).c0, (ey.keep0 ((Chg.refl [] _).alloc _)).c1, (ey.keep0 ((Chg.refl [] _).alloc _)).c2⟩
            clear hK K'
            try simp only [Act.put, List.setIfInBounds_toArray, List.set_cons_zero, List.set_cons_succ]
            have bR := Blk3.alloc wz (.bool false) (.string ⟨#[]⟩) (.string ⟨#[]⟩) 38
            have c9 : Chg [] wz (wz.alloc (.cells #[.bool false, .string ⟨#[]⟩, .string ⟨#[]⟩] 38)) := (Chg.refl _ _).alloc _
            have laR : _ ≤ wz.heap.size := hcz.size
            have lxR : _ < wz.heap.size := ex.lt
            replace ex := ex.keep0 c9
            replace ey := ey.keep0 c9
            replace hcz := hcz.then c9
            clear c9
            obtain ⟨wq135, HWwq135⟩ := name_it (wz.alloc (.cells #[.bool false, .string ⟨#[]⟩, .string ⟨#[]⟩] 38))
            obtain ⟨gR, HGgR⟩ := name_it wz.heap.size
            rw [HWwq135.out] at ex ey bR hcz hHeld ⊢
            rw [HGgR.out] at bR laR lxR ⊢
            refine wpAnyH_ready (rs := [8, 20]) (by kernel_rfl) (by simp) ?_
            refine AllReadyH.cons (o := _) rfl (fun K' hK => ?_) ?_
            · go_simp
              refine (FloorN x (ratOf x) 250 _ NX.out (by omega)).mono ?_
              rintro e9 wk136 ⟨zf1, rfl, hzf1, c6⟩
              have HF1 := Lib.hid hzf1
              clear hzf1
              replace ex := ex.keep0 c6
              replace ey := ey.keep0 c6
              replace bR := bR.keep0 c6
              replace hcz := hcz.then c6
              clear c6
              go_wp2_with fail
              refine hK.out _ _ ?_ (fun hHeld => ?_)
              · exact ⟨ex.c0, ex.c1, ex.c2, ey.c0, ey.c1, ey.c2⟩
              clear hK K'
              try simp only [Act.put, List.setIfInBounds_toArray, List.set_cons_zero, List.set_cons_succ]
              refine wpAnyH_ready (rs := [9, 20]) (by kernel_rfl) (by simp) ?_
              refine AllReadyH.cons (o := _) rfl (fun K' hK => ?_) ?_
              · go_simp
                refine (SubtractN x zf1 (ratOf x) (flo (ratOf x)) 250 (250 + 1) _ NX.out HF1.out.num (by omega)).mono ?_
                rintro e9 wk137 ⟨zx, rfl, hzx, c6⟩
                rw [HQX.out] at hzx
                have HX := Lib.hid hzx
                clear hzx
                replace ex := ex.keep0 c6
                replace ey := ey.keep0 c6
                replace bR := bR.keep0 c6
                replace hcz := hcz.then c6
                clear c6
                go_wp2_with fail
                refine hK.out _ _ ?_ (fun hHeld => ?_)
                · exact ⟨ex.c0, ex.c1, ex.c2, ey.c0, ey.c1, ey.c2⟩
                clear hK K'
                try simp only [Act.put, List.setIfInBounds_toArray, List.set_cons_zero, List.set_cons_succ]
                refine wpAnyH_ready (rs := [18, 20]) (by kernel_rfl) (by simp) ?_
                refine AllReadyH.cons (o := _) rfl (fun K' hK => ?_) ?_
                · go_simp
                  refine (FloorN y (ratOf y) 250 _ NY.out (by omega)).mono ?_
                  rintro e9 wk138 ⟨zf2, rfl, hzf2, c6⟩
                  have HF2 := Lib.hid hzf2
                  clear hzf2
                  replace ex := ex.keep0 c6
                  replace ey := ey.keep0 c6
                  replace bR := bR.keep0 c6
                  replace hcz := hcz.then c6
                  clear c6
                  go_wp2_with fail
                  refine hK.out _ _ ?_ (fun hHeld => ?_)
                  · exact ⟨ex.c0, ex.c1, ex.c2, ey.c0, ey.c1, ey.c2⟩
                  clear hK K'
                  try simp only [Act.put, List.setIfInBounds_toArray, List.set_cons_zero, List.set_cons_succ]
                  refine wpAnyH_ready (rs := [19, 20]) (by kernel_rfl) (by simp) ?_
                  refine AllReadyH.cons (o := _) rfl (fun K' hK => ?_) ?_
                  · go_simp
                    refine (SubtractN y zf2 (ratOf y) (flo (ratOf y)) 250 (250 + 1) _ NY.out HF2.out.num (by omega)).mono ?_
                    rintro e9 wk139 ⟨zy, rfl, hzy, c6⟩
                    rw [HQY.out] at hzy
                    have HY := Lib.hid hzy
                    clear hzy
                    replace ex := ex.keep0 c6
                    replace ey := ey.keep0 c6
                    replace bR := bR.keep0 c6
                    replace hcz := hcz.then c6
                    clear c6
                    go_wp2_with fail
                    refine hK.out _ _ ?_ (fun hHeld => ?_)
                    · exact ⟨ex.c0, ex.c1, ex.c2, ey.c0, ey.c1, ey.c2⟩
                    clear hK K'
                    try simp only [Act.put, List.setIfInBounds_toArray, List.set_cons_zero, List.set_cons_succ]
                    refine wpAnyH_ready (rs := [20]) (by kernel_rfl) (by simp) ?_
                    refine AllReadyH.cons (o := _) rfl (fun K' hK => ?_) AllReadyH.nil
                    go_simp
                    refine hK.out _ _ ?_ (fun hHeld => ?_)
                    · exact ⟨(ex.keep0 ((Chg.refl [] _).alloc _)).c0, (ex.keep0 ((Chg.refl [] _).alloc _)).c1, (ex.keep0 ((Chg.refl [] _).alloc _)).c2, (ey.keep0 ((Chg.refl [] _).alloc _)).c0, (ey.keep0 ((Chg.refl [] _).alloc _)).c1, (ey.keep0 ((Chg.refl [] _).alloc _)).c2⟩
                    clear hK K'
                    try simp only [Act.put, List.setIfInBounds_toArray, List.set_cons_zero, List.set_cons_succ]
                    have bP := Blk3.alloc wk139 (.bool false) (.string ⟨#[]⟩) (.string ⟨#[]⟩) 38
                    have c9 : Chg [] wk139 (wk139.alloc (.cells #[.bool false, .string ⟨#[]⟩, .string ⟨#[]⟩] 38)) := (Chg.refl _ _).alloc _
                    have laP : _ ≤ wk139.heap.size := hcz.size
                    have lxP : _ < wk139.heap.size := ex.lt
                    have lRP : _ < wk139.heap.size := bR.lt
                    replace ex := ex.keep0 c9
                    replace ey := ey.keep0 c9
                    replace bR := bR.keep0 c9
                    replace hcz := hcz.then c9
                    clear c9
                    obtain ⟨wq140, HWwq140⟩ := name_it (wk139.alloc (.cells #[.bool false, .string ⟨#[]⟩, .string ⟨#[]⟩] 38))
                    obtain ⟨gP, HGgP⟩ := name_it wk139.heap.size
                    rw [HWwq140.out] at ex ey bR bP hcz hHeld ⊢
                    rw [HGgP.out] at bP laP lxP lRP ⊢
                    refine wpAnyH_ready (rs := [22]) (by kernel_rfl) (by simp) ?_
                    refine AllReadyH.cons (o := _) rfl (fun K' hK => ?_) AllReadyH.nil
                    have bPc0 := bP.c0
                    have bPc1 := bP.c1
                    have bPc2 := bP.c2
                    have bPf0 := bP.f0
                    have bPf1 := bP.f1
                    have bPf2 := bP.f2
                    have bPl := bP.lt
                    go_simp
                    refine hK.out _ _ ?_ (fun hHeld => ?_)
                    · exact ⟨(ex.st2 (by omega) _ _ _).c0, (ex.st2 (by omega) _ _ _).c1, (ex.st2 (by omega) _ _ _).c2, (ey.st2 (by omega) _ _ _).c0, (ey.st2 (by omega) _ _ _).c1, (ey.st2 (by omega) _ _ _).c2⟩
                    clear hK K'
                    try simp only [Act.put, List.setIfInBounds_toArray, List.set_cons_zero, List.set_cons_succ]
                    clear bPc0 bPc1 bPc2 bPf0 bPf1 bPf2
                    replace ex := ex.st2 (k := gP) (by omega) (.bool zx.neg) (.string zx.num) (.string zx.den)
                    replace ey := ey.st2 (k := gP) (by omega) (.bool zx.neg) (.string zx.num) (.string zx.den)
                    replace bR := bR.st2 (k := gP) (by omega) (.bool zx.neg) (.string zx.num) (.string zx.den)
                    replace bP := bP.store (.bool zx.neg) (.string zx.num) (.string zx.den)
                    replace hcz := hcz.store3 (.inr laP) (.bool zx.neg) (.string zx.num) (.string zx.den)
                    clear bPl
                    obtain ⟨ws141, HWws141⟩ := name_it (((wq140.setCell ⟨gP, 0, none⟩ (.bool zx.neg)).setCell ⟨gP, 1, none⟩ (.string zx.num)).setCell ⟨gP, 2, none⟩ (.string zx.den))
                    rw [HWws141.out] at ex ey bR bP hcz hHeld ⊢
                    refine wpAnyH_ready (rs := [23]) (by kernel_rfl) (by simp) ?_
                    refine AllReadyH.cons (o := _) rfl (fun K' hK => ?_) AllReadyH.nil
                    have bRc0 := bR.c0
                    have bRc1 := bR.c1
                    have bRc2 := bR.c2
                    have bRf0 := bR.f0
                    have bRf1 := bR.f1
                    have bRf2 := bR.f2
                    have bRl := bR.lt
                    go_simp
                    refine hK.out _ _ ?_ (fun hHeld => ?_)
                    · exact ⟨(ex.st2 (by omega) _ _ _).c0, (ex.st2 (by omega) _ _ _).c1, (ex.st2 (by omega) _ _ _).c2, (ey.st2 (by omega) _ _ _).c0, (ey.st2 (by omega) _ _ _).c1, (ey.st2 (by omega) _ _ _).c2⟩
                    clear hK K'
                    try simp only [Act.put, List.setIfInBounds_toArray, List.set_cons_zero, List.set_cons_succ]
                    clear bRc0 bRc1 bRc2 bRf0 bRf1 bRf2
                    replace ex := ex.st2 (k := gR) (by omega) (.bool zy.neg) (.string zy.num) (.string zy.den)
                    replace ey := ey.st2 (k := gR) (by omega) (.bool zy.neg) (.string zy.num) (.string zy.den)
                    replace bR := bR.store (.bool zy.neg) (.string zy.num) (.string zy.den)
                    replace bP := bP.st2 (k := gR) (by omega) (.bool zy.neg) (.string zy.num) (.string zy.den)
                    replace hcz := hcz.store3 (.inr laR) (.bool zy.neg) (.string zy.num) (.string zy.den)
                    clear bRl
                    obtain ⟨ws142, HWws142⟩ := name_it (((ws141.setCell ⟨gR, 0, none⟩ (.bool zy.neg)).setCell ⟨gR, 1, none⟩ (.string zy.num)).setCell ⟨gR, 2, none⟩ (.string zy.den))
                    rw [HWws142.out] at ex ey bR bP hcz hHeld ⊢
                    refine wpAnyH_done (by kernel_rfl) ?_ _
                    go_wp2_with fail
                    go_meet
                    exact ⟨⟨_, _, zx, zy, rfl, rfl, HX.out, HY.out, bP, bR⟩, hcz⟩
                  refine AllReadyH.cons (o := _) rfl (fun K' hK => ?_) AllReadyH.nil
                  go_simp
                  refine hK.out _ _ ?_ (fun hHeld => ?_)
                  · exact ⟨(ex.keep0 ((Chg.refl [] _).alloc _)).c0, (ex.keep0 ((Chg.refl [] _).alloc _)).c1, (ex.keep0 ((Chg.refl [] _).alloc _)).c2, (ey.keep0 ((Chg.refl [] _).alloc _)).c0, (ey.keep0 ((Chg.refl [] _).alloc _)).c1, (ey.keep0 ((Chg.refl [] _).alloc _)).c2⟩
                  clear hK K'
                  try simp only [Act.put, List.setIfInBounds_toArray, List.set_cons_zero, List.set_cons_succ]
                  have bP := Blk3.alloc wk138 (.bool false) (.string ⟨#[]⟩) (.string ⟨#[]⟩) 38
                  have c9 : Chg [] wk138 (wk138.alloc (.cells #[.bool false, .string ⟨#[]⟩, .string ⟨#[]⟩] 38)) := (Chg.refl _ _).alloc _
                  have laP : _ ≤ wk138.heap.size := hcz.size
                  have lxP : _ < wk138.heap.size := ex.lt
                  have lRP : _ < wk138.heap.size := bR.lt
                  replace ex := ex.keep0 c9
                  replace ey := ey.keep0 c9
                  replace bR := bR.keep0 c9
                  replace hcz := hcz.then c9
                  clear c9
                  obtain ⟨wq143, HWwq143⟩ := name_it (wk138.alloc (.cells #[.bool false, .string ⟨#[]⟩, .string ⟨#[]⟩] 38))
                  obtain ⟨gP, HGgP⟩ := name_it wk138.heap.size
                  rw [HWwq143.out] at ex ey bR bP hcz hHeld ⊢
                  rw [HGgP.out] at bP laP lxP lRP ⊢
                  refine wpAnyH_ready (rs := [19]) (by kernel_rfl) (by simp) ?_
                  refine AllReadyH.cons (o := _) rfl (fun K' hK => ?_) AllReadyH.nil
                  go_simp
                  refine (SubtractN y zf2 (ratOf y) (flo (ratOf y)) 250 (250 + 1) _ NY.out HF2.out.num (by omega)).mono ?_
                  rintro e9 wk144 ⟨zy, rfl, hzy, c6⟩
                  rw [HQY.out] at hzy
                  have HY := Lib.hid hzy
                  clear hzy
                  replace ex := ex.keep0 c6
                  replace ey := ey.keep0 c6
                  replace bR := bR.keep0 c6
                  replace bP := bP.keep0 c6
                  replace hcz := hcz.then c6
                  clear c6
                  go_wp2_with fail
                  refine hK.out _ _ ?_ (fun hHeld => ?_)
                  · exact ⟨ex.c0, ex.c1, ex.c2, ey.c0, ey.c1, ey.c2⟩
                  clear hK K'
                  try simp only [Act.put, List.setIfInBounds_toArray, List.set_cons_zero, List.set_cons_succ]
                  refine wpAnyH_ready (rs := [22]) (by kernel_rfl) (by simp) ?_
                  refine AllReadyH.cons (o := _) rfl (fun K' hK => ?_) AllReadyH.nil
                  have bPc0 := bP.c0
                  have bPc1 := bP.c1
                  have bPc2 := bP.c2
                  have bPf0 := bP.f0
                  have bPf1 := bP.f1
                  have bPf2 := bP.f2
                  have bPl := bP.lt
                  go_simp
                  refine hK.out _ _ ?_ (fun hHeld => ?_)
                  · exact ⟨(ex.st2 (by omega) _ _ _).c0, (ex.st2 (by omega) _ _ _).c1, (ex.st2 (by omega) _ _ _).c2, (ey.st2 (by omega) _ _ _).c0, (ey.st2 (by omega) _ _ _).c1, (ey.st2 (by omega) _ _ _).c2⟩
                  clear hK K'
                  try simp only [Act.put, List.setIfInBounds_toArray, List.set_cons_zero, List.set_cons_succ]
                  clear bPc0 bPc1 bPc2 bPf0 bPf1 bPf2
                  replace ex := ex.st2 (k := gP) (by omega) (.bool zx.neg) (.string zx.num) (.string zx.den)
                  replace ey := ey.st2 (k := gP) (by omega) (.bool zx.neg) (.string zx.num) (.string zx.den)
                  replace bR := bR.st2 (k := gP) (by omega) (.bool zx.neg) (.string zx.num) (.string zx.den)
                  replace bP := bP.store (.bool zx.neg) (.string zx.num) (.string zx.den)
                  replace hcz := hcz.store3 (.inr laP) (.bool zx.neg) (.string zx.num) (.string zx.den)
                  clear bPl
                  obtain ⟨ws145, HWws145⟩ := name_it (((wk144.setCell ⟨gP, 0, none⟩ (.bool zx.neg)).setCell ⟨gP, 1, none⟩ (.string zx.num)).setCell ⟨gP, 2, none⟩ (.string zx.den))
                  rw [HWws145.out] at ex ey bR bP hcz hHeld ⊢
                  refine wpAnyH_ready (rs := [23]) (by kernel_rfl) (by simp) ?_
                  refine AllReadyH.cons (o := _) rfl (fun K' hK => ?_) AllReadyH.nil
                  have bRc0 := bR.c0
                  have bRc1 := bR.c1
                  have bRc2 := bR.c2
                  have bRf0 := bR.f0
                  have bRf1 := bR.f1
                  have bRf2 := bR.f2
                  have bRl := bR.lt
                  go_simp
                  refine hK.out _ _ ?_ (fun hHeld => ?_)
                  · exact ⟨(ex.st2 (by omega) _ _ _).c0, (ex.st2 (by omega) _ _ _).c1, (ex.st2 (by omega) _ _ _).c2, (ey.st2 (by omega) _ _ _).c0, (ey.st2 (by omega) _ _ _).c1, (ey.st2 (by omega) _ _ _).c2⟩
                  clear hK K'
                  try simp only [Act.put, List.setIfInBounds_toArray, List.set_cons_zero, List.set_cons_succ]
                  clear bRc0 bRc1 bRc2 bRf0 bRf1 bRf2
                  replace ex := ex.st2 (k := gR) (by omega) (.bool zy.neg) (.string zy.num) (.string zy.den)
                  replace ey := ey.st2 (k := gR) (by omega) (.bool zy.neg) (.string zy.num) (.string zy.den)
                  replace bR := bR.store (.bool zy.neg) (.string zy.num) (.string zy.den)
                  replace bP := bP.st2 (k := gR) (by omega) (.bool zy.neg) (.string zy.num) (.string zy.den)
                  replace hcz := hcz.store3 (.inr laR) (.bool zy.neg) (.string zy.num) (.string zy.den)
                  clear bRl
                  obtain ⟨ws146, HWws146⟩ := name_it (((ws145.setCell ⟨gR, 0, none⟩ (.bool zy.neg)).setCell ⟨gR, 1, none⟩ (.string zy.num)).setCell ⟨gR, 2, none⟩ (.string zy.den))
                  rw [HWws146.out] at ex ey bR bP hcz hHeld ⊢
                  refine wpAnyH_done (by kernel_rfl) ?_ _
                  go_wp2_with fail
                  go_meet
                  exact ⟨⟨_, _, zx, zy, rfl, rfl, HX.out, HY.out, bP, bR⟩, hcz⟩
                refine AllReadyH.cons (o := _) rfl (fun K' hK => ?_) AllReadyH.nil
                go_simp
                refine hK.out _ _ ?_ (fun hHeld => ?_)
                · exact ⟨(ex.keep0 ((Chg.refl [] _).alloc _)).c0, (ex.keep0 ((Chg.refl [] _).alloc _)).c1, (ex.keep0 ((Chg.refl [] _).alloc _)).c2, (ey.keep0 ((Chg.refl [] _).alloc _)).c0, (ey.keep0 ((Chg.refl [] _).alloc _)).c1, (ey.keep0 ((Chg.refl [] _).alloc _)).c2⟩
                clear hK K'
                try simp only [Act.put, List.setIfInBounds_toArray, List.set_cons_zero, List.set_cons_succ]
                have bP := Blk3.alloc wk137 (.bool false) (.string ⟨#[]⟩) (.string ⟨#[]⟩) 38
                have c9 : Chg [] wk137 (wk137.alloc (.cells #[.bool false, .string ⟨#[]⟩, .string ⟨#[]⟩] 38)) := (Chg.refl _ _).alloc _
                have laP : _ ≤ wk137.heap.size := hcz.size
                have lxP : _ < wk137.heap.size := ex.lt
                have lRP : _ < wk137.heap.size := bR.lt
                replace ex := ex.keep0 c9
                replace ey := ey.keep0 c9
                replace bR := bR.keep0 c9
                replace hcz := hcz.then c9
                clear c9
                obtain ⟨wq147, HWwq147⟩ := name_it (wk137.alloc (.cells #[.bool false, .string ⟨#[]⟩, .string ⟨#[]⟩] 38))
                obtain ⟨gP, HGgP⟩ := name_it wk137.heap.size
                rw [HWwq147.out] at ex ey bR bP hcz hHeld ⊢
                rw [HGgP.out] at bP laP lxP lRP ⊢
                refine wpAnyH_ready (rs := [18]) (by kernel_rfl) (by simp) ?_
                refine AllReadyH.cons (o := _) rfl (fun K' hK => ?_) AllReadyH.nil
                go_simp
                refine (FloorN y (ratOf y) 250 _ NY.out (by omega)).mono ?_
                rintro e9 wk148 ⟨zf2, rfl, hzf2, c6⟩
                have HF2 := Lib.hid hzf2
                clear hzf2
                replace ex := ex.keep0 c6
                replace ey := ey.keep0 c6
                replace bR := bR.keep0 c6
                replace bP := bP.keep0 c6
                replace hcz := hcz.then c6
                clear c6
                go_wp2_with fail
                refine hK.out _ _ ?_ (fun hHeld => ?_)
                · exact ⟨ex.c0, ex.c1, ex.c2, ey.c0, ey.c1, ey.c2⟩
                clear hK K'
                try simp only [Act.put, List.setIfInBounds_toArray, List.set_cons_zero, List.set_cons_succ]
                refine wpAnyH_ready (rs := [19]) (by kernel_rfl) (by simp) ?_
                refine AllReadyH.cons (o := _) rfl (fun K' hK => ?_) AllReadyH.nil
                go_simp
                refine (SubtractN y zf2 (ratOf y) (flo (ratOf y)) 250 (250 + 1) _ NY.out HF2.out.num (by omega)).mono ?_
                rintro e9 wk149 ⟨zy, rfl, hzy, c6⟩
                rw [HQY.out] at hzy
                have HY := Lib.hid hzy
                clear hzy
                replace ex := ex.keep0 c6
                replace ey := ey.keep0 c6
                replace bR := bR.keep0 c6
                replace bP := bP.keep0 c6
                replace hcz := hcz.then c6
                clear c6
                go_wp2_with fail
                refine hK.out _ _ ?_ (fun hHeld => ?_)
                · exact ⟨ex.c0, ex.c1, ex.c2, ey.c0, ey.c1, ey.c2⟩
                clear hK K'
                try simp only [Act.put, List.setIfInBounds_toArray, List.set_cons_zero, List.set_cons_succ]
                refine wpAnyH_ready (rs := [22]) (by kernel_rfl) (by simp) ?_
                refine AllReadyH.cons (o := _) rfl (fun K' hK => ?_) AllReadyH.nil
                have bPc0 := bP.c0
                have bPc1 := bP.c1
                have bPc2 := bP.c2
                have bPf0 := bP.f0
                have bPf1 := bP.f1
                have bPf2 := bP.f2
                have bPl := bP.lt
                go_simp
                refine hK.out _ _ ?_ (fun hHeld => ?_)
                · exact ⟨(ex.st2 (by omega) _ _ _).c0, (ex.st2 (by omega) _ _ _).c1, (ex.st2 (by omega) _ _ _).c2, (ey.st2 (by omega) _ _ _).c0, (ey.st2 (by omega) _ _ _).c1, (ey.st2 (by omega) _ _ _).c2⟩
                clear hK K'
                try simp only [Act.put, List.setIfInBounds_toArray, List.set_cons_zero, List.set_cons_succ]
                clear bPc0 bPc1 bPc2 bPf0 bPf1 bPf2
                replace ex := ex.st2 (k := gP) (by omega) (.bool zx.neg) (.string zx.num) (.string zx.den)
                replace ey := ey.st2 (k := gP) (by omega) (.bool zx.neg) (.string zx.num) (.string zx.den)
                replace bR := bR.st2 (k := gP) (by omega) (.bool zx.neg) (.string zx.num) (.string zx.den)
                replace bP := bP.store (.bool zx.neg) (.string zx.num) (.string zx.den)
                replace hcz := hcz.store3 (.inr laP) (.bool zx.neg) (.string zx.num) (.string zx.den)
                clear bPl
                obtain ⟨ws150, HWws150⟩ := name_it (((wk149.setCell ⟨gP, 0, none⟩ (.bool zx.neg)).setCell ⟨gP, 1, none⟩ (.string zx.num)).setCell ⟨gP, 2, none⟩ (.string zx.den))
                rw [HWws150.out] at ex ey bR bP hcz hHeld ⊢
                refine wpAnyH_ready (rs := [23]) (by kernel_rfl) (by simp) ?_
                refine AllReadyH.cons (o := _) rfl (fun K' hK => ?_) AllReadyH.nil
                have bRc0 := bR.c0
                have bRc1 := bR.c1
                have bRc2 := bR.c2
                have bRf0 := bR.f0
                have bRf1 := bR.f1
                have bRf2 := bR.f2
                have bRl := bR.lt
                go_simp
                refine hK.out _ _ ?_ (fun hHeld => ?_)
                · exact ⟨(ex.st2 (by omega) _ _ _).c0, (ex.st2 (by omega) _ _ _).c1, (ex.st2 (by omega) _ _ _).c2, (ey.st2 (by omega) _ _ _).c0, (ey.st2 (by omega) _ _ _).c1, (ey.st2 (by omega) _ _ _).c2⟩
                clear hK K'
                try simp only [Act.put, List.setIfInBounds_toArray, List.set_cons_zero, List.set_cons_succ]
                clear bRc0 bRc1 bRc2 bRf0 bRf1 bRf2
                replace ex := ex.st2 (k := gR) (by omega) (.bool zy.neg) (.string zy.num) (.string zy.den)
                replace ey := ey.st2 (k := gR) (by omega) (.bool zy.neg) (.string zy.num) (.string zy.den)
                replace bR := bR.store (.bool zy.neg) (.string zy.num) (.string zy.den)
                replace bP := bP.st2 (k := gR) (by omega) (.bool zy.neg) (.string zy.num) (.string zy.den)
                replace hcz := hcz.store3 (.inr laR) (.bool zy.neg) (.string zy.num) (.string zy.den)
                clear bRl
                obtain ⟨ws151, HWws151⟩ := name_it (((ws150.setCell ⟨gR, 0, none⟩ (.bool zy.neg)).setCell ⟨gR, 1, none⟩ (.string zy.num)).setCell ⟨gR, 2, none⟩ (.string zy.den))
                rw [HWws151.out] at ex ey bR bP hcz hHeld ⊢
                refine wpAnyH_done (by kernel_rfl) ?_ _
                go_wp2_with fail
                go_meet
                exact ⟨⟨_, _, zx, zy, rfl, rfl, HX.out, HY.out, bP, bR⟩, hcz⟩
              refine AllReadyH.cons (o := _) rfl (fun K' hK => ?_) AllReadyH.nil
              go_simp
              refine hK.out _ _ ?_ (fun hHeld => ?_)
              · exact ⟨(ex.keep0 ((Chg.refl [] _).alloc _)).c0, (ex.keep0 ((Chg.refl [] _).alloc _)).c1, (ex.keep0 ((Chg.refl [] _).alloc _)).c2, (ey.keep0 ((Chg.refl [] _).alloc _)).c0, (ey.keep0 ((Chg.refl [] _).alloc _)).c1, (ey.keep0 ((Chg.refl [] _).alloc _)).c2⟩
              clear hK K'
              try simp only [Act.put, List.setIfInBounds_toArray, List.set_cons_zero, List.set_cons_succ]
              have bP := Blk3.alloc wk136 (.bool false) (.string ⟨#[]⟩) (.string ⟨#[]⟩) 38
              have c9 : Chg [] wk136 (wk136.alloc (.cells #[.bool false, .string ⟨#[]⟩, .string ⟨#[]⟩] 38)) := (Chg.refl _ _).alloc _
              have laP : _ ≤ wk136.heap.size := hcz.size
              have lxP : _ < wk136.heap.size := ex.lt
              have lRP : _ < wk136.heap.size := bR.lt
              replace ex := ex.keep0 c9
              replace ey := ey.keep0 c9
              replace bR := bR.keep0 c9
              replace hcz := hcz.then c9
              clear c9
              obtain ⟨wq152, HWwq152⟩ := name_it (wk136.alloc (.cells #[.bool false, .string ⟨#[]⟩, .string ⟨#[]⟩] 38))
              obtain ⟨gP, HGgP⟩ := name_it wk136.heap.size
              rw [HWwq152.out] at ex ey bR bP hcz hHeld ⊢
              rw [HGgP.out] at bP laP lxP lRP ⊢
              refine wpAnyH_ready (rs := [9]) (by kernel_rfl) (by simp) ?_
              refine AllReadyH.cons (o := _) rfl (fun K' hK => ?_) AllReadyH.nil
              go_simp
              refine (SubtractN x zf1 (ratOf x) (flo (ratOf x)) 250 (250 + 1) _ NX.out HF1.out.num (by omega)).mono ?_
              rintro e9 wk153 ⟨zx, rfl, hzx, c6⟩
              rw [HQX.out] at hzx
              have HX := Lib.hid hzx
              clear hzx
              replace ex := ex.keep0 c6
              replace ey := ey.keep0 c6
              replace bR := bR.keep0 c6
              replace bP := bP.keep0 c6
              replace hcz := hcz.then c6
              clear c6
              go_wp2_with fail
              refine hK.out _ _ ?_ (fun hHeld => ?_)
              · exact ⟨ex.c0, ex.c1, ex.c2, ey.c0, ey.c1, ey.c2⟩
              clear hK K'
              try simp only [Act.put, List.setIfInBounds_toArray, List.set_cons_zero, List.set_cons_succ]
              refine wpAnyH_ready (rs := [18]) (by kernel_rfl) (by simp) ?_
              refine AllReadyH.cons (o := _) rfl (fun K' hK => ?_) AllReadyH.nil
              go_simp
              refine (FloorN y (ratOf y) 250 _ NY.out (by omega)).mono ?_
              rintro e9 wk154 ⟨zf2, rfl, hzf2, c6⟩
              have HF2 := Lib.hid hzf2
              clear hzf2
              replace ex := ex.keep0 c6
              replace ey := ey.keep0 c6
              replace bR := bR.keep0 c6
              replace bP := bP.keep0 c6
              replace hcz := hcz.then c6
              clear c6
              go_wp2_with fail
              refine hK.out _ _ ?_ (fun hHeld => ?_)
              · exact ⟨ex.c0, ex.c1, ex.c2, ey.c0, ey.c1, ey.c2⟩
              clear hK K'
              try simp only [Act.put, List.setIfInBounds_toArray, List.set_cons_zero, List.set_cons_succ]
              refine wpAnyH_ready (rs := [19]) (by kernel_rfl) (by simp) ?_
              refine AllReadyH.cons (o := _) rfl (fun K' hK => ?_) AllReadyH.nil
              go_simp
              refine (SubtractN y zf2 (ratOf y) (flo (ratOf y)) 250 (250 + 1) _ NY.out HF2.out.num (by omega)).mono ?_
              rintro e9 wk155 ⟨zy, rfl, hzy, c6⟩
              rw [HQY.out] at hzy
              have HY := Lib.hid hzy
              clear hzy
              replace ex := ex.keep0 c6
              replace ey := ey.keep0 c6
              replace bR := bR.keep0 c6
              replace bP := bP.keep0 c6
              replace hcz := hcz.then c6
              clear c6
              go_wp2_with fail
              refine hK.out _ _ ?_ (fun hHeld => ?_)
              · exact ⟨ex.c0, ex.c1, ex.c2, ey.c0, ey.c1, ey.c2⟩
              clear hK K'
              try simp only [Act.put, List.setIfInBounds_toArray, List.set_cons_zero, List.set_cons_succ]
              refine wpAnyH_ready (rs := [22]) (by kernel_rfl) (by simp) ?_
              refine AllReadyH.cons (o := _) rfl (fun K' hK => ?_) AllReadyH.nil
              have bPc0 := bP.c0
              have bPc1 := bP.c1
              have bPc2 := bP.c2
              have bPf0 := bP.f0
              have bPf1 := bP.f1
              have bPf2 := bP.f2
              have bPl := bP.lt
              go_simp
              refine hK.out _ _ ?_ (fun hHeld => ?_)
              · exact ⟨(ex.st2 (by omega) _ _ _).c0, (ex.st2 (by omega) _ _ _).c1, (ex.st2 (by omega) _ _ _).c2, (ey.st2 (by omega) _ _ _).c0, (ey.st2 (by omega) _ _ _).c1, (ey.st2 (by omega) _ _ _).c2⟩
              clear hK K'
              try simp only [Act.put, List.setIfInBounds_toArray, List.set_cons_zero, List.set_cons_succ]
              clear bPc0 bPc1 bPc2 bPf0 bPf1 bPf2
              replace ex := ex.st2 (k := gP) (by omega) (.bool zx.neg) (.string zx.num) (.string zx.den)
              replace ey := ey.st2 (k := gP) (by omega) (.bool zx.neg) (.string zx.num) (.string zx.den)
              replace bR := bR.st2 (k := gP) (by omega) (.bool zx.neg) (.string zx.num) (.string zx.den)
              replace bP := bP.store (.bool zx.neg) (.string zx.num) (.string zx.den)
              replace hcz := hcz.store3 (.inr laP) (.bool zx.neg) (.string zx.num) (.string zx.den)
              clear bPl
              obtain ⟨ws156, HWws156⟩ := name_it (((wk155.setCell ⟨gP, 0, none⟩ (.bool zx.neg)).setCell ⟨gP, 1, none⟩ (.string zx.num)).setCell ⟨gP, 2, none⟩ (.string zx.den))
              rw [HWws156.out] at ex ey bR bP hcz hHeld ⊢
              refine wpAnyH_ready (rs := [23]) (by kernel_rfl) (by simp) ?_
              refine AllReadyH.cons (o := _) rfl (fun K' hK => ?_) AllReadyH.nil
              have bRc0 := bR.c0
              have bRc1 := bR.c1
              have bRc2 := bR.c2
              have bRf0 := bR.f0
              have bRf1 := bR.f1
              have bRf2 := bR.f2
              have bRl := bR.lt
              go_simp
              refine hK.out _ _ ?_ (fun hHeld => ?_)
              · exact ⟨(ex.st2 (by omega) _ _ _).c0, (ex.st2 (by omega) _ _ _).c1, (ex.st2 (by omega) _ _ _).c2, (ey.st2 (by omega) _ _ _).c0, (ey.st2 (by omega) _ _ _).c1, (ey.st2 (by omega) _ _ _).c2⟩
              clear hK K'
              try simp only [Act.put, List.setIfInBounds_toArray, List.set_cons_zero, List.set_cons_succ]
              clear bRc0 bRc1 bRc2 bRf0 bRf1 bRf2
              replace ex := ex.st2 (k := gR) (by omega) (.bool zy.neg) (.string zy.num) (.string zy.den)
              replace ey := ey.st2 (k := gR) (by omega) (.bool zy.neg) (.string zy.num) (.string zy.den)
              replace bR := bR.store (.bool zy.neg) (.string zy.num) (.string zy.den)
              replace bP := bP.st2 (k := gR) (by omega) (.bool zy.neg) (.string zy.num) (.string zy.den)
              replace hcz := hcz.store3 (.inr laR) (.bool zy.neg) (.string zy.num) (.string zy.den)
              clear bRl
              obtain ⟨ws157, HWws157⟩ := name_it (((ws156.setCell ⟨gR, 0, none⟩ (.bool zy.neg)).setCell ⟨gR, 1, none⟩ (.string zy.num)).setCell ⟨gR, 2, none⟩ (.string zy.den))
              rw [HWws157.out] at ex ey bR bP hcz hHeld ⊢
              refine wpAnyH_done (by kernel_rfl) ?_ _
              go_wp2_with fail
              go_meet
              exact ⟨⟨_, _, zx, zy, rfl, rfl, HX.out, HY.out, bP, bR⟩, hcz⟩
            refine AllReadyH.cons (o := _) rfl (fun K' hK => ?_) AllReadyH.nil
            go_simp
            refine hK.out _ _ ?_ (fun hHeld => ?_)
            · exact ⟨(ex.keep0 ((Chg.refl [] _).alloc _)).c0, (ex.keep0 ((Chg.refl [] _).alloc _)).c1, (ex.keep0 ((Chg.refl [] _).alloc _)).c2, (ey.keep0 ((Chg.refl [] _).alloc _)).c0, (ey.keep0 ((Chg.refl [] _).alloc _)).c1, (ey.keep0 ((Chg.refl [] _).alloc _)).c2⟩
            clear hK K'
            try simp only [Act.put, List.setIfInBounds_toArray, List.set_cons_zero, List.set_cons_succ]
            have bP := Blk3.alloc wq135 (.bool false) (.string ⟨#[]⟩) (.string ⟨#[]⟩) 38
            have c9 : Chg [] wq135 (wq135.alloc (.cells #[.bool false, .string ⟨#[]⟩, .string ⟨#[]⟩] 38)) := (Chg.refl _ _).alloc _
            have laP : _ ≤ wq135.heap.size := hcz.size
            have lxP : _ < wq135.heap.size := ex.lt
            have lRP : _ < wq135.heap.size := bR.lt
            replace ex := ex.keep0 c9
            replace ey := ey.keep0 c9
            replace bR := bR.keep0 c9
            replace hcz := hcz.then c9
            clear c9
            obtain ⟨wq158, HWwq158⟩ := name_it (wq135.alloc (.cells #[.bool false, .string ⟨#[]⟩, .string ⟨#[]⟩] 38))
            obtain ⟨gP, HGgP⟩ := name_it wq135.heap.size
            rw [HWwq158.out] at ex ey bR bP hcz hHeld ⊢
            rw [HGgP.out] at bP laP lxP lRP ⊢
            refine wpAnyH_ready (rs := [8]) (by kernel_rfl) (by simp) ?_
            refine AllReadyH.cons (o := _) rfl (fun K' hK => ?_) AllReadyH.nil
            go_simp
            refine (FloorN x (ratOf x) 250 _ NX.out (by omega)).mono ?_
            rintro e9 wk159 ⟨zf1, rfl, hzf1, c6⟩
            have HF1 := Lib.hid hzf1
            clear hzf1
            replace ex := ex.keep0 c6
            replace ey := ey.keep0 c6
            replace bR := bR.keep0 c6
            replace bP := bP.keep0 c6
            replace hcz := hcz.then c6
            clear c6
            go_wp2_with fail
            refine hK.out _ _ ?_ (fun hHeld => ?_)
            · exact ⟨ex.c0, ex.c1, ex.c2, ey.c0, ey.c1, ey.c2⟩
            clear hK K'
            try simp only [Act.put, List.setIfInBounds_toArray, List.set_cons_zero, List.set_cons_succ]
            refine wpAnyH_ready (rs := [9]) (by kernel_rfl) (by simp) ?_
            refine AllReadyH.cons (o := _) rfl (fun K' hK => ?_) AllReadyH.nil
            go_simp
            refine (SubtractN x zf1 (ratOf x) (flo (ratOf x)) 250 (250 + 1) _ NX.out HF1.out.num (by omega)).mono ?_
            rintro e9 wk160 ⟨zx, rfl, hzx, c6⟩
            rw [HQX.out] at hzx
            have HX := Lib.hid hzx
            clear hzx
            replace ex := ex.keep0 c6
            replace ey := ey.keep0 c6
            replace bR := bR.keep0 c6
            replace bP := bP.keep0 c6
            replace hcz := hcz.then c6
            clear c6
            go_wp2_with fail
            refine hK.out _ _ ?_ (fun hHeld => ?_)
            · exact ⟨ex.c0, ex.c1, ex.c2, ey.c0, ey.c1, ey.c2⟩
            clear hK K'
            try simp only [Act.put, List.setIfInBounds_toArray, List.set_cons_zero, List.set_cons_succ]
            refine wpAnyH_ready (rs := [18]) (by kernel_rfl) (by simp) ?_
            refine AllReadyH.cons (o := _) rfl (fun K' hK => ?_) AllReadyH.nil
            go_simp
            refine (FloorN y (ratOf y) 250 _ NY.out (by omega)).mono ?_
            rintro e9 wk161 ⟨zf2, rfl, hzf2, c6⟩
            have HF2 := Lib.hid hzf2
            clear hzf2
            replace ex := ex.keep0 c6
            replace ey := ey.keep0 c6
            replace bR := bR.keep0 c6
            replace bP := bP.keep0 c6
            replace hcz := hcz.then c6
            clear c6
            go_wp2_with fail
            refine hK.out _ _ ?_ (fun hHeld => ?_)
            · exact ⟨ex.c0, ex.c1, ex.c2, ey.c0, ey.c1, ey.c2⟩
            clear hK K'
            try simp only [Act.put, List.setIfInBounds_toArray, List.set_cons_zero, List.set_cons_succ]
            refine wpAnyH_ready (rs := [19]) (by kernel_rfl) (by simp) ?_
            refine AllReadyH.cons (o := _) rfl (fun K' hK => ?_) AllReadyH.nil
            go_simp
            refine (SubtractN y zf2 (ratOf y) (flo (ratOf y)) 250 (250 + 1) _ NY.out HF2.out.num (by omega)).mono ?_
            rintro e9 wk162 ⟨zy, rfl, hzy, c6⟩
            rw [HQY.out] at hzy
            have HY := Lib.hid hzy
            clear hzy
            replace ex := ex.keep0 c6
            replace ey := ey.keep0 c6
            replace bR := bR.keep0 c6
            replace bP := bP.keep0 c6
            replace hcz := hcz.then c6
            clear c6
            go_wp2_with fail
            refine hK.out _ _ ?_ (fun hHeld => ?_)
            · exact ⟨ex.c0, ex.c1, ex.c2, ey.c0, ey.c1, ey.c2⟩
            clear hK K'
            try simp only [Act.put, List.setIfInBounds_toArray, List.set_cons_zero, List.set_cons_succ]
            refine wpAnyH_ready (rs := [22]) (by kernel_rfl) (by simp) ?_
            refine AllReadyH.cons (o := _) rfl (fun K' hK => ?_) AllReadyH.nil
            have bPc0 := bP.c0
            have bPc1 := bP.c1
            have bPc2 := bP.c2
            have bPf0 := bP.f0
            have bPf1 := bP.f1
            have bPf2 := bP.f2
            have bPl := bP.lt
            go_simp
            refine hK.out _ _ ?_ (fun hHeld => ?_)
            · exact ⟨(ex.st2 (by omega) _ _ _).c0, (ex.st2 (by omega) _ _ _).c1, (ex.st2 (by omega) _ _ _).c2, (ey.st2 (by omega) _ _ _).c0, (ey.st2 (by omega) _ _ _).c1, (ey.st2 (by omega) _ _ _).c2⟩
            clear hK K'
            try simp only [Act.put, List.setIfInBounds_toArray, List.set_cons_zero, List.set_cons_succ]
            clear bPc0 bPc1 bPc2 bPf0 bPf1 bPf2
            replace ex := ex.st2 (k := gP) (by omega) (.bool zx.neg) (.string zx.num) (.string zx.den)
            replace ey := ey.st2 (k := gP) (by omega) (.bool zx.neg) (.string zx.num) (.string zx.den)
            replace bR := bR.st2 (k := gP) (by omega) (.bool zx.neg) (.string zx.num) (.string zx.den)
            replace bP := bP.store (.bool zx.neg) (.string zx.num) (.string zx.den)
            replace hcz := hcz.store3 (.inr laP) (.bool zx.neg) (.string zx.num) (.string zx.den)
            clear bPl
            obtain ⟨ws163, HWws163⟩ := name_it (((wk162.setCell ⟨gP, 0, none⟩ (.bool zx.neg)).setCell ⟨gP, 1, none⟩ (.string zx.num)).setCell ⟨gP, 2, none⟩ (.string zx.den))
            rw [HWws163.out] at ex ey bR bP hcz hHeld ⊢
            refine wpAnyH_ready (rs := [23]) (by kernel_rfl) (by simp) ?_
            refine AllReadyH.cons (o := _) rfl (fun K' hK => ?_) AllReadyH.nil
            have bRc0 := bR.c0
            have bRc1 := bR.c1
            have bRc2 := bR.c2
            have bRf0 := bR.f0
            have bRf1 := bR.f1
            have bRf2 := bR.f2
            have bRl := bR.lt
            go_simp
            refine hK.out _ _ ?_ (fun hHeld => ?_)
            · exact ⟨(ex.st2 (by omega) _ _ _).c0, (ex.st2 (by omega) _ _ _).c1, (ex.st2 (by omega) _ _ _).c2, (ey.st2 (by omega) _ _ _).c0, (ey.st2 (by omega) _ _ _).c1, (ey.st2 (by omega) _ _ _).c2⟩
            clear hK K'
            try simp only [Act.put, List.setIfInBounds_toArray, List.set_cons_zero, List.set_cons_succ]
            clear bRc0 bRc1 bRc2 bRf0 bRf1 bRf2
            replace ex := ex.st2 (k := gR) (by omega) (.bool zy.neg) (.string zy.num) (.string zy.den)
            replace ey := ey.st2 (k := gR) (by omega) (.bool zy.neg) (.string zy.num) (.string zy.den)
            replace bR := bR.store (.bool zy.neg) (.string zy.num) (.string zy.den)
            replace bP := bP.st2 (k := gR) (by omega) (.bool zy.neg) (.string zy.num) (.string zy.den)
            replace hcz := hcz.store3 (.inr laR) (.bool zy.neg) (.string zy.num) (.string zy.den)
            clear bRl
            obtain ⟨ws164, HWws164⟩ := name_it (((ws163.setCell ⟨gR, 0, none⟩ (.bool zy.neg)).setCell ⟨gR, 1, none⟩ (.string zy.num)).setCell ⟨gR, 2, none⟩ (.string zy.den))
            rw [HWws164.out] at ex ey bR bP hcz hHeld ⊢
            refine wpAnyH_done (by kernel_rfl) ?_ _
            go_wp2_with fail
            go_meet
            exact ⟨⟨_, _, zx, zy, rfl, rfl, HX.out, HY.out, bP, bR⟩, hcz⟩
          case rest =>
            obtain ⟨⟨g9, g10, zx, zy, rfl, rfl, hzx, hzy, b9, b10⟩, c9⟩ := hcut
            have HX := Lib.hid hzx
            have HY := Lib.hid hzy
            have hc2 := hc1.then c9
            replace ca := ca.keep0 c9
            replace cb := cb.keep0 c9
            replace ex := ex.keep0 c9
            replace ey := ey.keep0 c9
            clear c9 hzx hzy hc1
            rename World => wy1
            go_wp2_with fail
            have c8 : Chg [] wy1 wy1.drew := (Chg.refl _ _).drew
            replace ca := ca.keep0 c8
            replace cb := cb.keep0 c8
            replace ex := ex.keep0 c8
            replace ey := ey.keep0 c8
            replace b9 := b9.keep0 c8
            replace b10 := b10.keep0 c8
            replace hc2 := hc2.then c8
            clear c8 hch hrd hf
            obtain ⟨o1, HO1⟩ := name_it (qo (fi : Rat) (ratOf x))
            obtain ⟨o2, HO2⟩ := name_it (qo (fk : Rat) (ratOf y))
            go_region_held3 (fun w' => w'.cell? ⟨h5, i, none⟩ = some (.int .i64 fi) ∧ w'.cell? ⟨gx, ox + i * 3, none⟩ = some (.bool x.neg) ∧ w'.cell? ⟨gx, ox + i * 3 + 1, none⟩ = some (.string x.num) ∧ w'.cell? ⟨gx, ox + i * 3 + 2, none⟩ = some (.string x.den)) (exact ⟨ca.c0, ex.c0, ex.c1, ex.c2⟩) (first
              | (go_at_call 14
                 (with_reducible refine (IntV fi _ (by omega) (by omega)).mono ?_)
                 rintro e w14 ⟨za, rfl, hza, c5⟩
                 have HA := Lib.hid hza
                 replace ca := ca.keep0 c5
                 replace cb := cb.keep0 c5
                 replace ex := ex.keep0 c5
                 replace ey := ey.keep0 c5
                 replace b9 := b9.keep0 c5
                 replace b10 := b10.keep0 c5
                 replace hc2 := hc2.then c5
                 clear c5 hza)
              | (go_at_call 21
                 (with_reducible refine (CompareN za x (fi : Rat) (ratOf x) 8 250 _ HA.out.num NX.out (by omega)).mono ?_)
                 rintro e w15 ⟨rfl, c5⟩
                 rw [HO1.out]
                 replace ca := ca.keep0 c5
                 replace cb := cb.keep0 c5
                 replace ex := ex.keep0 c5
                 replace ey := ey.keep0 c5
                 replace b9 := b9.keep0 c5
                 replace b10 := b10.keep0 c5
                 replace hc2 := hc2.then c5
                 clear c5)
              | fail)
            go_wp2_with fail
            have c8 : Chg [] w15 w15.drew := (Chg.refl _ _).drew
            replace cb := cb.keep0 c8
            replace ey := ey.keep0 c8
            replace b9 := b9.keep0 c8
            replace b10 := b10.keep0 c8
            replace hc2 := hc2.then c8
            clear c8 ca ex
            go_region_held3 (fun w' => w'.cell? ⟨h5, k, none⟩ = some (.int .i64 fk) ∧ w'.cell? ⟨gx, ox + k * 3, none⟩ = some (.bool y.neg) ∧ w'.cell? ⟨gx, ox + k * 3 + 1, none⟩ = some (.string y.num) ∧ w'.cell? ⟨gx, ox + k * 3 + 2, none⟩ = some (.string y.den)) (exact ⟨cb.c0, ey.c0, ey.c1, ey.c2⟩) (first
              | (go_at_call 14
                 (with_reducible refine (IntV fk _ (by omega) (by omega)).mono ?_)
                 rintro e w16 ⟨zb, rfl, hzb, c5⟩
                 have HB := Lib.hid hzb
                 replace cb := cb.keep0 c5
                 replace ey := ey.keep0 c5
                 replace b9 := b9.keep0 c5
                 replace b10 := b10.keep0 c5
                 replace hc2 := hc2.then c5
                 clear c5 hzb)
              | (go_at_call 21
                 (with_reducible refine (CompareN zb y (fk : Rat) (ratOf y) 8 250 _ HB.out.num NY.out (by omega)).mono ?_)
                 rintro e w17 ⟨rfl, c5⟩
                 rw [HO2.out]
                 replace cb := cb.keep0 c5
                 replace ey := ey.keep0 c5
                 replace b9 := b9.keep0 c5
                 replace b10 := b10.keep0 c5
                 replace hc2 := hc2.then c5
                 clear c5)
              | fail)
            clear cb ey
            rw [HO1.out, HO2.out] at HMM
            by_cases g1 : 0 < o1
            · have d1 : decide (0 < o1) = true := decide_eq_true g1
              by_cases g2 : o2 < 0
              · have d2 : decide (o2 < 0) = true := decide_eq_true g2
                have hmm := HMM.out g1 g2
                by_cases g3 : qx = qy
                · subst g3
                  obtain rfl : zx = zy := HX.out.unique HY.out
                  have hik : i < k := by
                    rcases hmm with h | h
                    · rw [qo_eq rfl] at h
                      exact absurd h (by decide)
                    · exact h.2
                  have d4 : decide ((k : Int) < (i : Int)) = false := decide_eq_false (by omega)
                  have d4b : decide (k < i) = false := decide_eq_false (by omega)
                  have d5 : qo qx qx = 0 := qo_eq rfl
                  clear hmm
                  have b9c0 := b9.c0
                  have b9c1 := b9.c1
                  have b9c2 := b9.c2
                  have b9f0 := b9.f0
                  have b9f1 := b9.f1
                  have b9f2 := b9.f2
                  have b9l := b9.lt
                  have b10c0 := b10.c0
                  have b10c1 := b10.c1
                  have b10c2 := b10.c2
                  have b10f0 := b10.f0
                  have b10f1 := b10.f1
                  have b10f2 := b10.f2
                  have b10l := b10.lt
                  go_wp2_with fail
                  clear b9c0 b9c1 b9c2 b9f0 b9f1 b9f2 b9l b10c0 b10c1 b10c2 b10f0 b10f1 b10f2 b10l
                  refine (CompareN zx zx qx qx (250 + (250 + 1) + 1) (250 + (250 + 1) + 1) _ HX.out.num HX.out.num (by omega)).mono ?_
                  rintro e w18 ⟨rfl, c5⟩
                  rw [d5]
                  replace b9 := b9.keep0 c5
                  replace b10 := b10.keep0 c5
                  replace hc2 := hc2.then c5
                  clear c5
                  have b9c0 := b9.c0
                  have b9c1 := b9.c1
                  have b9c2 := b9.c2
                  have b9f0 := b9.f0
                  have b9f1 := b9.f1
                  have b9f2 := b9.f2
                  have b9l := b9.lt
                  have b10c0 := b10.c0
                  have b10c1 := b10.c1
                  have b10c2 := b10.c2
                  have b10f0 := b10.f0
                  have b10f1 := b10.f1
                  have b10f2 := b10.f2
                  have b10l := b10.lt
                  go_wp2_with fail
                  clear b9c0 b9c1 b9c2 b9f0 b9f1 b9f2 b9l b10c0 b10c1 b10c2 b10f0 b10f1 b10f2 b10l
                  go_roundw
                  case rel => exact ⟨k + 1, by omega, by go_num, hc2⟩
                  case measure => simp [intOf]; omega
                · have d5 : qo qx qy = 1 := by
                    rcases hmm with h | h
                    · exact h
                    · exact absurd h.1 g3
                  have hne : zx ≠ zy := fun h => g3 (by rw [← HX.out.num.rat, ← HY.out.num.rat, h])
                  clear hmm
                  have b9c0 := b9.c0
                  have b9c1 := b9.c1
                  have b9c2 := b9.c2
                  have b9f0 := b9.f0
                  have b9f1 := b9.f1
                  have b9f2 := b9.f2
                  have b9l := b9.lt
                  have b10c0 := b10.c0
                  have b10c1 := b10.c1
                  have b10c2 := b10.c2
                  have b10f0 := b10.f0
                  have b10f1 := b10.f1
                  have b10f2 := b10.f2
                  have b10l := b10.lt
                  go_wp2_with fail
                  clear b9c0 b9c1 b9c2 b9f0 b9f1 b9f2 b9l b10c0 b10c1 b10c2 b10f0 b10f1 b10f2 b10l
                  refine (CompareN zx zy qx qy (250 + (250 + 1) + 1) (250 + (250 + 1) + 1) _ HX.out.num HY.out.num (by omega)).mono ?_
                  rintro e w18 ⟨rfl, c5⟩
                  rw [d5]
                  replace b9 := b9.keep0 c5
                  replace b10 := b10.keep0 c5
                  replace hc2 := hc2.then c5
                  clear c5
                  have b9c0 := b9.c0
                  have b9c1 := b9.c1
                  have b9c2 := b9.c2
                  have b9f0 := b9.f0
                  have b9f1 := b9.f1
                  have b9f2 := b9.f2
                  have b9l := b9.lt
                  have b10c0 := b10.c0
                  have b10c1 := b10.c1
                  have b10c2 := b10.c2
                  have b10f0 := b10.f0
                  have b10f1 := b10.f1
                  have b10f2 := b10.f2
                  have b10l := b10.lt
                  go_wp2_with fail
                  all_goals first
                    | (exfalso; exact hne (q3_ext (by assumption) (by assumption) (by assumption)))
                    | exact ⟨⟨k + 1, by omega, by go_num, hc2⟩, by simp [intOf]; omega⟩
              · have d2 : decide (o2 < 0) = false := decide_eq_false g2
                go_wp2_with fail
                go_roundw
                case rel => exact ⟨k + 1, by omega, by go_num, hc2⟩
                case measure => simp [intOf]; omega
            · have d1 : decide (0 < o1) = false := decide_eq_false g1
              go_wp2_with fail
              go_roundw
              case rel => exact ⟨k + 1, by omega, by go_num, hc2⟩
              case measure => simp [intOf]; omega
        · have d3 : decide ((k : Int) < (m : Int)) = false := decide_eq_false (by omega)
          go_wp2_with fail
          go_roundw
          case rel => exact ⟨i + 1, by omega, by go_num, hc1⟩
          case measure => simp [intOf]; omega
    · have d0 : decide ((i : Int) < (m : Int)) = false := decide_eq_false (by omega)
      go_wp2_with fail
      refine (awake4_any _).mono ?_
      rintro e w13 ⟨rfl, c3⟩
      have hch2 := (hch.then hc1).then c3
      clear c3
      go_wp2_with fail
      go_ret
      exact ⟨rfl, hch2⟩
end Go.Proofs.Ytdlejpaaoinokaa
