/-
  Of law 4: Exact.
-/
import Derived.Test.YtikeoiakicpleaaAL4
namespace Go.Proofs.Ytikeoiakicpleaa
open Go.RowKit Nd

/-- A number at an address. -/
structure E3 (w : World) (g o : Nat) (x : Q3) : Prop where
  lt : g < w.heap.size
  c0 : w.cell? ⟨g, o, none⟩ = some (.bool x.neg)
  c1 : w.cell? ⟨g, o + 1, none⟩ = some (.string x.num)
  c2 : w.cell? ⟨g, o + 2, none⟩ = some (.string x.den)
theorem E3.keep {gs : List Nat} {w w' : World} {g o : Nat} {x : Q3} (h : E3 w g o x) (hc : Chg gs w w') (hg : g ∉ gs) : E3 w' g o x :=
  ⟨Nat.lt_of_lt_of_le h.lt hc.size, (hc.cell (p := ⟨g, _, none⟩) h.lt hg).trans h.c0, (hc.cell (p := ⟨g, _, none⟩) h.lt hg).trans h.c1, (hc.cell (p := ⟨g, _, none⟩) h.lt hg).trans h.c2⟩
theorem E3.keep0 {w w' : World} {g o : Nat} {x : Q3} (h : E3 w g o x) (hc : Chg [] w w') : E3 w' g o x := h.keep hc (by simp)
theorem E3.st2 {w : World} {g o k : Nat} {x : Q3} (h : E3 w g o x) (hk : g ≠ k) (a b c : Value) : E3 (((w.setCell ⟨k, 0, none⟩ a).setCell ⟨k, 1, none⟩ b).setCell ⟨k, 2, none⟩ c) g o x :=
  h.keep ((Chg.refl [k] w).store3 (.inl (by simp)) a b c) (by simpa using hk)
theorem C1.st2 {w : World} {g j k : Nat} {v : Value} (h : C1 w g j v) (hk : g ≠ k) (a b c : Value) : C1 (((w.setCell ⟨k, 0, none⟩ a).setCell ⟨k, 1, none⟩ b).setCell ⟨k, 2, none⟩ c) g j v :=
  h.keep ((Chg.refl [k] w).store3 (.inl (by simp)) a b c) (by simpa using hk)
theorem den_emp {z : Q3} {q : Rat} {k : Nat} (h : Val z q k) : (z.den.toList == []) = decide (q.den = 1) := by
  have e : (z.den.toList == []) = z.den.toList.isEmpty := by cases z.den.toList <;> rfl
  rw [e, Is_empty h.enc.den]
  by_cases h1 : q.den = 1
  · simp [h1]
  · have := q.den_nz
    simp [h1, this]
/-- Behind a region: a box that holds a number, and a truth. -/
structure KE (w0 wx : World) (v b : Value) (q : Rat) (k : Nat) : Prop where
  out : ∃ (g : Nat) (z : Q3), v = .pointer (some ⟨g, 0, none⟩) ∧ b = .bool true ∧ Val z q k ∧ Blk3 wx g (.bool z.neg) (.string z.num) (.string z.den)
  ch : Chg [] w0 wx
/-- Behind a region: a box that holds a number. -/
structure KE1 (w0 wx : World) (v : Value) (q : Rat) (k : Nat) : Prop where
  out : ∃ (g : Nat) (z : Q3), v = .pointer (some ⟨g, 0, none⟩) ∧ Val z q k ∧ Blk3 wx g (.bool z.neg) (.string z.num) (.string z.den)
  ch : Chg [] w0 wx
set_option maxRecDepth 20000 in
set_option maxHeartbeats 8000000 in
theorem laexact_any (t : Int) (L : List Int) (l : Nat) (A : Option Addr) (cap : Nat) (w : World) (ht : 0 ≤ t ∧ t ≤ 4294967295) (hl : L.length = l) (hl2 : l ≤ 9223372036854775807) (hL : ∀ x, x ∈ L → 0 ≤ x ∧ x ≤ 65535) (hx : RdW w A L) :
    Calls Try.prog 6 #[.int .u32 t, .slice A l cap] w fun e w' => e = .returned (.bool true) ∧ Chg [] w w' := by
  have hch : Chg [] w w := Chg.refl _ _
  have f4 : IntKind.i64.wrap t = t := by rw [IntKind.wrap_i64]; omega
  go_enter Try.func6, Try.ntmps6
  go_wp2_with fail
  refine (amounts_any L l A cap w hl hl2 hL hx).mono ?_
  rintro e w1 ⟨v, xs, rfl, hown, hw, _, c1⟩
  have HW := Lib.hid hw
  obtain ⟨n, HNN⟩ := name_it (min 12 l)
  rw [HNN.out] at HW
  have hn12 : n ≤ 12 := by have := HNN.out; omega
  replace hch := hch.then c1
  obtain ⟨A2, cap2, rfl, hcl, hcl2, hrd⟩ := hown.rds
  have hxl := HW.out.len
  rw [hxl] at hcl ⊢
  have ck1 : chkA xs = 0 := chkA_pos (by omega) HW.out.nn
  have CK1 := Lib.hid ck1
  have S1 := Lib.hid (fun w h => split_any t xs n 8 A2 cap2 w ⟨by omega, by omega⟩ hxl (by omega) (by omega) (by omega) HW.out.ok h)
  clear c1 hw hx hL hl hl2 HNN hown ck1
  go_wp2_with fail
  refine (S1.out _ hrd).mono ?_
  intro e w2 hp1
  obtain ⟨N, D, hcm, hn1, hg1⟩ := hp1.com CK1.out ht.1
  have c5 := hp1.ch
  have HCM := Lib.hid hcm
  replace hrd := hrd.keep0 c5
  replace hch := hch.then c5
  clear hp1 hcm c5 S1
  obtain ⟨S, HS⟩ := name_it (apS N n)
  have hsum : sumQ xs = sq false S D := by rw [HCM.out.sum hxl, HS.out]
  have HSUM := Lib.hid hsum
  have hD := HCM.out.pos
  clear hsum
  have SUM := Lib.hid (fun w h => Sum_list xs A2 cap2 8 n w hxl HW.out.ok (by omega) hcl hcl2 (by omega) h)
  rw [HSUM.out] at SUM
  have hz0 : S = 0 → sq false S D = 0 := fun h => by rw [h]; exact sq_zero false D
  have hz1 : S ≠ 0 → sg (sq false S D) = 1 := fun h => by
    have h1 : 0 ≤ sq false S D := sq_ge_zero (by omega)
    have h2 : sq false S D ≠ 0 := fun e => h ((sq_eq_zero (by omega)).1 e)
    unfold sg
    rw [if_neg (by grind), if_neg h2]
  have HZ0 := Lib.hid hz0
  have HZ1 := Lib.hid hz1
  clear hz0 hz1
  by_cases h0 : apS N n = 0
  · obtain rfl := hn1 h0
    have hs0 : sg (sq false S D) = 0 := by rw [HZ0.out (by rw [← HS.out]; exact h0)]; decide
    clear hg1 hn1
    go_wp2_with fail
    refine (SUM.out _ hrd).mono ?_
    rintro e w4 ⟨zs, rfl, hz, c4⟩
    have HZ := Lib.hid hz.num
    replace hrd := hrd.keep0 c4
    replace hch := hch.then c4
    have b8 := Blk3.alloc w4 (.bool zs.neg) (.string zs.num) (.string zs.den) 38
    have c2 : Chg [] w4 (w4.alloc (.cells #[.bool zs.neg, .string zs.num, .string zs.den] 38)) := (Chg.refl _ _).alloc _
    replace hrd := hrd.keep0 c2
    replace hch := hch.then c2
    clear hz
    clear c4 c2 hrd
    have b8c0 := b8.c0
    have b8c1 := b8.c1
    have b8c2 := b8.c2
    have b8f0 := b8.f0
    have b8f1 := b8.f1
    have b8f2 := b8.f2
    have b8l := b8.lt
    go_wp2_with fail
    clear b8c0 b8c1 b8c2 b8f0 b8f1 b8f2 b8l
    refine (SignN zs _ _ _ HZ.out (by omega)).mono ?_
    rintro e w5 ⟨rfl, c6⟩
    replace hch := hch.then c6
    clear c6
    rw [hs0]
    go_wp2_with fail
    refine (awake4_any _).mono ?_
    rintro e w6 ⟨rfl, c3⟩
    replace hch := hch.then c3
    clear c3
    go_wp2_with fail
    go_ret
    exact ⟨rfl, hch⟩
  · obtain ⟨h5, rfl, _, hf⟩ := hg1 h0
    have hs1 : sg (sq false S D) = 1 := HZ1.out (by rw [← HS.out]; exact h0)
    have hpr := prt_of (t := t.toNat) h0 (by omega)
    have hex := exa_of (t := t.toNat) h0 (by omega)
    obtain ⟨f, HF⟩ := name_it (resA (fun i => t.toNat * N i) (apS N n) n)
    rw [HF.out] at hpr hf hex
    rw [HS.out] at hex h0
    have HEX := Lib.hid hex
    have HPR := Lib.hid hpr
    have hfs := hpr.sum
    clear hpr hg1 hn1 HF hex
    go_wp2_with fail
    refine (SUM.out _ hrd).mono ?_
    rintro e w4 ⟨zs, rfl, hz, c4⟩
    have HZ := Lib.hid hz.num
    replace hrd := hrd.keep0 c4
    replace hch := hch.then c4
    have b8 := Blk3.alloc w4 (.bool zs.neg) (.string zs.num) (.string zs.den) 38
    have c2 : Chg [] w4 (w4.alloc (.cells #[.bool zs.neg, .string zs.num, .string zs.den] 38)) := (Chg.refl _ _).alloc _
    replace hrd := hrd.keep0 c2
    replace hch := hch.then c2
    clear hz
    replace hf := (hf.keep0 c4).keep0 c2
    clear c4 c2
    have b8c0 := b8.c0
    have b8c1 := b8.c1
    have b8c2 := b8.c2
    have b8f0 := b8.f0
    have b8f1 := b8.f1
    have b8f2 := b8.f2
    have b8l := b8.lt
    go_wp2_with fail
    clear b8c0 b8c1 b8c2 b8f0 b8f1 b8f2 b8l
    refine (SignN zs _ _ _ HZ.out (by omega)).mono ?_
    rintro e w5 ⟨rfl, c6⟩
    replace hch := hch.then c6
    replace hf := hf.keep0 c6
    replace hrd := hrd.keep0 c6
    replace b8 := b8.keep0 c6
    clear c6
    rw [hs1]
    go_wp2_with fail
    refine (lsum_any f h5 n n _ (by omega) (by omega) hf).mono ?_
    rintro e w6 ⟨rfl, c6⟩
    replace hch := hch.then c6
    replace hf := hf.keep0 c6
    replace hrd := hrd.keep0 c6
    replace b8 := b8.keep0 c6
    clear c6
    have hft : ((apS f n : Nat) : Int) = t := by omega
    rw [hft]
    go_wp2_with fail
    obtain ⟨g8, G8⟩ := name_it w4.heap.size
    rw [G8.out] at b8 ⊢
    clear G8
    have HS0 : Hid (sq false S D ≠ 0) := Lib.hid (fun e => h0 ((sq_eq_zero (by omega)).1 e))
    go_loopw [55] (fun iv wx => ∃ i : Nat, i ≤ n ∧ iv = .int .i64 i ∧ Chg [] w6 wx) (fun iv _ => n - (intOf iv).toNat)
    case atStart => exact ⟨0, Nat.zero_le _, rfl, Chg.refl _ _⟩
    case round =>
      obtain ⟨i, hi, rfl, hc1⟩ := hrel
      by_cases hlt : i < n
      · have d0 : decide ((i : Int) < (n : Int)) = true := decide_eq_true (by omega)
        have hrk := hrd.keep0 hc1
        obtain ⟨gx, ox, rfl, hgl⟩ := hrk.form (by rw [hxl]; omega)
        obtain ⟨x0, x1, x2, x3⟩ := hrk.at_ (j := i) (by rw [hxl]; exact hlt)
        have nx := Num.of_fits (HW.out.ok (xs.getD i q0) (mem_getD (by rw [hxl]; exact hlt))) (by omega)
        have hxe := HCM.out.eq i hlt
        have h1 := HEX.out.lo i hlt
        have h2 := HEX.out.hi i hlt
        have h3 := HEX.out.ex i hlt
        have h4 := HPR.out.le i hlt
        have hfi := hf.cell i hlt
        have hSpos : 0 < S := by omega
        have heq : (t : Rat) * sq false (N i) D / sq false S D = sq false (t.toNat * N i) S := by
          rw [← ap_split (t := t.toNat) (x := N i) (D := D) (W := S) (by omega) (by omega)]
          have e1 : (t : Rat) = sq false t.toNat 1 := by
            have := nat_sq (f := t.toNat) (S := 1) (by omega)
            rw [Nat.mul_one, show ((t.toNat : Nat) : Int) = t by omega] at this
            exact this
          rw [← e1]
        have e2 := ex_rat (f := f i) hSpos h1 h2
        have e3 := fun h => ex_zero (f := f i) hSpos (h3 h)
        have e4 : ∀ {z : Q3} {k : Nat}, Val z (sq false (t.toNat * N i) S) k → (sq false (t.toNat * N i) S).den = 1 → sg ((((f i : Nat) : Int) : Rat) - sq false (t.toNat * N i) S) = 0 := fun hz h => e3 (ex_den hSpos hz h)
        obtain ⟨x, HXV⟩ := name_it (xs.getD i q0)
        rw [HXV.out] at x1 x2 x3 nx hxe
        rw [← hxe] at heq
        obtain ⟨qE, HQE⟩ := name_it (sq false (t.toNat * N i) S)
        rw [HQE.out] at e2 e4 heq
        obtain ⟨fi, HFI⟩ := name_it ((f i : Nat) : Int)
        have hfb : 0 ≤ fi ∧ fi ≤ 4294967295 := by rw [← HFI.out]; omega
        rw [HFI.out] at e2 e4 hfi
        have HEQ := Lib.hid heq
        have NX := Lib.hid nx
        have HE2 := Lib.hid e2
        have HE4 : Hid (∀ (z : Q3) (k : Nat), Val z qE k → qE.den = 1 → sg ((fi : Rat) - qE) = 0) := Lib.hid (fun _ _ h => e4 h)
        have k1 : (0 : Int) ≤ (i : Int) := by omega
        have k2 : (i : Int) < (n : Int) := by omega
        have ex : E3 wr gx (ox + i * 3) x := ⟨x0, x1, x2, x3⟩
        have hb := b8.keep0 hc1
        have ca := (C1.mk hfi hf.lt).keep0 hc1
        clear e2 e3 e4 heq nx hxe h1 h2 h3 h4 hfi x0 x1 x2 x3 hrk HXV HQE HFI hgl
        go_wp2_with fail
        go_cut [10, 11] (fun pv bv wx => KE wr wx pv bv qE (8 + 8 + (n * (8 + 2) + 1)))
        case first =>
          have hcz : Chg [] wr wr.drew := (Chg.refl _ _).drew
          replace ex := ex.keep0 hcz
          replace hb := hb.keep0 hcz
          clear hch hc1 ca b8 hrd hf
          refine wp_region_held_drew (S := (fun w' => w'.cell? ⟨gx, ox + i * 3, none⟩ = some (.bool x.neg) ∧ w'.cell? ⟨gx, ox + i * 3 + 1, none⟩ = some (.string x.num) ∧ w'.cell? ⟨gx, ox + i * 3 + 2, none⟩ = some (.string x.den) ∧ w'.cell? ⟨g8, 0, none⟩ = some (.bool zs.neg) ∧ w'.cell? ⟨g8, 1, none⟩ = some (.string zs.num) ∧ w'.cell? ⟨g8, 2, none⟩ = some (.string zs.den))) (by kernel_rfl) ?_ (fun hHeld => ?_)
          · exact ⟨ex.c0, ex.c1, ex.c2, hb.c0, hb.c1, hb.c2⟩
          obtain ⟨wz, HWz⟩ := name_it wr.drew
          rw [HWz.out] at ex hb hcz hHeld ⊢
          refine wpAnyH_take (i := 0) (v := ?_) rfl (by kernel_rfl) (by kernel_rfl) (by kernel_rfl) (fun _ _ _ h => h) (Or.inl ⟨by rfl, ?_⟩) (by assumption) ?_
          rotate_left 1
          · intro w hSw
            try dsimp only at hSw
            go_simp
            try with_reducible rfl
          try simp only [Act.put, List.setIfInBounds_toArray]
          refine wpAnyH_take (i := 3) (v := ?_) rfl (by kernel_rfl) (by kernel_rfl) (by kernel_rfl) (fun _ _ _ h => h) (Or.inl ⟨by rfl, ?_⟩) (by assumption) ?_
          rotate_left 1
          · intro w hSw
            try dsimp only at hSw
            go_simp
            try with_reducible rfl
          try simp only [Act.put]
          refine wpAnyH_take (i := 4) (v := ?_) rfl (by kernel_rfl) (by kernel_rfl) (by kernel_rfl) (fun _ _ _ h => h) (Or.inl ⟨by rfl, ?_⟩) (by assumption) ?_
          rotate_left 1
          · intro w hSw
            try dsimp only at hSw
            go_simp
            try with_reducible rfl
          try simp only [Act.put]
          refine wpAnyH_take (i := 8) (v := ?_) rfl (by kernel_rfl) (by kernel_rfl) (by kernel_rfl) (fun _ _ _ h => h) (Or.inl ⟨by rfl, ?_⟩) (by assumption) ?_
          rotate_left 1
          · intro w hSw
            try dsimp only at hSw
            go_simp
            try with_reducible rfl
          try simp only [Act.put]
          refine wpAnyH_take (i := 1) (v := ?_) rfl (by kernel_rfl) (by kernel_rfl) (by kernel_rfl) (fun _ _ _ h => h) (Or.inl ⟨by rfl, ?_⟩) (by assumption) ?_
          rotate_left 1
          · intro w hSw
            try dsimp only at hSw
            go_simp
            try with_reducible rfl
          try simp only [Act.put]
          refine wpAnyH_take (i := 5) (v := ?_) rfl (by kernel_rfl) (by kernel_rfl) (by kernel_rfl) (fun _ _ _ h => h) (Or.inl ⟨by rfl, ?_⟩) (by assumption) ?_
          rotate_left 1
          · intro w hSw
            try dsimp only at hSw
            go_simp
            try with_reducible rfl
          try simp only [Act.put]
          refine wpAnyH_take (i := 6) (v := ?_) rfl (by kernel_rfl) (by kernel_rfl) (by kernel_rfl) (fun _ _ _ h => h) (Or.inl ⟨by rfl, ?_⟩) (by assumption) ?_
          rotate_left 1
          · intro w hSw
            try dsimp only at hSw
            go_simp
            try with_reducible rfl
          try simp only [Act.put]
          refine wpAnyH_ready (rs := [2, 13]) (by kernel_rfl) (by simp) ?_
          refine AllReadyH.cons (o := _) rfl (fun K' hK => ?_) ?_
          · go_simp
            refine (IntV t _ (by omega) (by omega)).mono ?_
            rintro e9 wk1 ⟨zt, rfl, hzt, c6⟩
            have HZT := Lib.hid hzt
            clear hzt
            replace ex := ex.keep0 c6
            replace hb := hb.keep0 c6
            replace hcz := hcz.then c6
            clear c6
            go_wp2_with fail
            refine hK.out _ _ ?_ (fun hHeld => ?_)
            · exact ⟨ex.c0, ex.c1, ex.c2, hb.c0, hb.c1, hb.c2⟩
            clear hK K'
            try simp only [Act.put, List.setIfInBounds_toArray, List.set_cons_zero, List.set_cons_succ]
            refine wpAnyH_ready (rs := [7, 13]) (by kernel_rfl) (by simp) ?_
            refine AllReadyH.cons (o := _) rfl (fun K' hK => ?_) ?_
            · go_simp
              refine (MultiplyN zt x (t : Rat) (ratOf x) 8 8 _ HZT.out.num NX.out (by omega)).mono ?_
              rintro e9 wk2 ⟨zm, rfl, hzm, c6⟩
              have HZM := Lib.hid hzm
              clear hzm
              replace ex := ex.keep0 c6
              replace hb := hb.keep0 c6
              replace hcz := hcz.then c6
              clear c6
              go_wp2_with fail
              refine hK.out _ _ ?_ (fun hHeld => ?_)
              · exact ⟨ex.c0, ex.c1, ex.c2, hb.c0, hb.c1, hb.c2⟩
              clear hK K'
              try simp only [Act.put, List.setIfInBounds_toArray, List.set_cons_zero, List.set_cons_succ]
              refine wpAnyH_ready (rs := [9, 13]) (by kernel_rfl) (by simp) ?_
              refine AllReadyH.cons (o := _) rfl (fun K' hK => ?_) ?_
              · go_simp
                refine (DivideN zm zs ((t : Rat) * ratOf x) (sq false S D) (8 + 8) (n * (8 + 2) + 1) _ HZM.out.num HZ.out HS0.out (by omega)).mono ?_
                rintro e9 wk3 ⟨zz, rfl, hzz, c6⟩
                rw [HEQ.out] at hzz
                have HZZ := Lib.hid hzz
                clear hzz
                replace ex := ex.keep0 c6
                replace hb := hb.keep0 c6
                replace hcz := hcz.then c6
                clear c6
                go_wp2_with fail
                refine hK.out _ _ ?_ (fun hHeld => ?_)
                · exact ⟨ex.c0, ex.c1, ex.c2, hb.c0, hb.c1, hb.c2⟩
                clear hK K'
                try simp only [Act.put, List.setIfInBounds_toArray, List.set_cons_zero, List.set_cons_succ]
                refine wpAnyH_take (i := 10) (v := ?_) rfl (by kernel_rfl) (by kernel_rfl) (by kernel_rfl) (fun _ _ _ h => h) (Or.inl ⟨by rfl, ?_⟩) (by assumption) ?_
                rotate_left 1
                · intro w hSw
                  try dsimp only at hSw
                  go_simp
                  try with_reducible rfl
                try simp only [Act.put, List.setIfInBounds_toArray]
                refine wpAnyH_take (i := 11) (v := ?_) rfl (by kernel_rfl) (by kernel_rfl) (by kernel_rfl) (fun _ _ _ h => h) (Or.inl ⟨by rfl, ?_⟩) (by assumption) ?_
                rotate_left 1
                · intro w hSw
                  try dsimp only at hSw
                  go_simp
                  try with_reducible rfl
                try simp only [Act.put]
                refine wpAnyH_take (i := 12) (v := ?_) rfl (by kernel_rfl) (by kernel_rfl) (by kernel_rfl) (fun _ _ _ h => h) (Or.inl ⟨by rfl, ?_⟩) (by assumption) ?_
                rotate_left 1
                · intro w hSw
                  try dsimp only at hSw
                  go_simp
                  try with_reducible rfl
                try simp only [Act.put]
                refine wpAnyH_ready (rs := [13]) (by kernel_rfl) (by simp) ?_
                refine AllReadyH.cons (o := _) rfl (fun K' hK => ?_) AllReadyH.nil
                go_simp
                refine hK.out _ _ ?_ (fun hHeld => ?_)
                · exact ⟨(ex.keep0 ((Chg.refl [] _).alloc _)).c0, (ex.keep0 ((Chg.refl [] _).alloc _)).c1, (ex.keep0 ((Chg.refl [] _).alloc _)).c2, (hb.keep0 ((Chg.refl [] _).alloc _)).c0, (hb.keep0 ((Chg.refl [] _).alloc _)).c1, (hb.keep0 ((Chg.refl [] _).alloc _)).c2⟩
                clear hK K'
                try simp only [Act.put, List.setIfInBounds_toArray, List.set_cons_zero, List.set_cons_succ]
                have bP := Blk3.alloc wk3 (.bool false) (.string ⟨#[]⟩) (.string ⟨#[]⟩) 38
                have c9 : Chg [] wk3 (wk3.alloc (.cells #[.bool false, .string ⟨#[]⟩, .string ⟨#[]⟩] 38)) := (Chg.refl _ _).alloc _
                have la : _ ≤ wk3.heap.size := hcz.size
                have lg : _ < wk3.heap.size := hb.lt
                have lx : _ < wk3.heap.size := ex.lt
                replace ex := ex.keep0 c9
                replace hb := hb.keep0 c9
                replace hcz := hcz.then c9
                clear c9
                obtain ⟨wq4, HWwq4⟩ := name_it (wk3.alloc (.cells #[.bool false, .string ⟨#[]⟩, .string ⟨#[]⟩] 38))
                obtain ⟨gP, HGgP⟩ := name_it wk3.heap.size
                rw [HWwq4.out] at ex hb bP hcz hHeld ⊢
                rw [HGgP.out] at bP la lg lx ⊢
                refine wpAnyH_ready (rs := [14]) (by kernel_rfl) (by simp) ?_
                refine AllReadyH.cons (o := _) rfl (fun K' hK => ?_) AllReadyH.nil
                have bPc0 := bP.c0
                have bPc1 := bP.c1
                have bPc2 := bP.c2
                have bPf0 := bP.f0
                have bPf1 := bP.f1
                have bPf2 := bP.f2
                have bPl := bP.lt
                go_simp
                refine hK.out _ _ ?_ (fun hHeld => ?_)
                · exact ⟨(ex.st2 (by omega) _ _ _).c0, (ex.st2 (by omega) _ _ _).c1, (ex.st2 (by omega) _ _ _).c2, (hb.st2 (by omega) _ _ _).c0, (hb.st2 (by omega) _ _ _).c1, (hb.st2 (by omega) _ _ _).c2⟩
                clear hK K'
                try simp only [Act.put, List.setIfInBounds_toArray, List.set_cons_zero, List.set_cons_succ]
                clear bPc0 bPc1 bPc2 bPf0 bPf1 bPf2
                refine wpAnyH_take (i := 15) (v := ?_) rfl (by kernel_rfl) (by kernel_rfl) (by kernel_rfl) (fun _ _ _ h => h) (Or.inl ⟨by rfl, ?_⟩) (by assumption) ?_
                rotate_left 1
                · intro w hSw
                  try dsimp only at hSw
                  go_simp
                  try with_reducible rfl
                try simp only [List.getElem_toArray, List.getElem_cons_succ, List.getElem_cons_zero]
                try simp only [Act.put, List.setIfInBounds_toArray, List.set_cons_zero, List.set_cons_succ]
                refine wpAnyH_done (by kernel_rfl) ?_ _
                go_wp2_with fail
                go_meet
                exact ⟨⟨_, zz, rfl, rfl, HZZ.out, bP.store _ _ _⟩, hcz.store3 (.inr la) _ _ _⟩
              refine AllReadyH.cons (o := _) rfl (fun K' hK => ?_) AllReadyH.nil
              go_simp
              refine hK.out _ _ ?_ (fun hHeld => ?_)
              · exact ⟨(ex.keep0 ((Chg.refl [] _).alloc _)).c0, (ex.keep0 ((Chg.refl [] _).alloc _)).c1, (ex.keep0 ((Chg.refl [] _).alloc _)).c2, (hb.keep0 ((Chg.refl [] _).alloc _)).c0, (hb.keep0 ((Chg.refl [] _).alloc _)).c1, (hb.keep0 ((Chg.refl [] _).alloc _)).c2⟩
              clear hK K'
              try simp only [Act.put, List.setIfInBounds_toArray, List.set_cons_zero, List.set_cons_succ]
              have bP := Blk3.alloc wk2 (.bool false) (.string ⟨#[]⟩) (.string ⟨#[]⟩) 38
              have c9 : Chg [] wk2 (wk2.alloc (.cells #[.bool false, .string ⟨#[]⟩, .string ⟨#[]⟩] 38)) := (Chg.refl _ _).alloc _
              have la : _ ≤ wk2.heap.size := hcz.size
              have lg : _ < wk2.heap.size := hb.lt
              have lx : _ < wk2.heap.size := ex.lt
              replace ex := ex.keep0 c9
              replace hb := hb.keep0 c9
              replace hcz := hcz.then c9
              clear c9
              obtain ⟨wq5, HWwq5⟩ := name_it (wk2.alloc (.cells #[.bool false, .string ⟨#[]⟩, .string ⟨#[]⟩] 38))
              obtain ⟨gP, HGgP⟩ := name_it wk2.heap.size
              rw [HWwq5.out] at ex hb bP hcz hHeld ⊢
              rw [HGgP.out] at bP la lg lx ⊢
              refine wpAnyH_ready (rs := [9]) (by kernel_rfl) (by simp) ?_
              refine AllReadyH.cons (o := _) rfl (fun K' hK => ?_) AllReadyH.nil
              go_simp
              refine (DivideN zm zs ((t : Rat) * ratOf x) (sq false S D) (8 + 8) (n * (8 + 2) + 1) _ HZM.out.num HZ.out HS0.out (by omega)).mono ?_
              rintro e9 wk6 ⟨zz, rfl, hzz, c6⟩
              rw [HEQ.out] at hzz
              have HZZ := Lib.hid hzz
              clear hzz
              replace ex := ex.keep0 c6
              replace hb := hb.keep0 c6
              replace bP := bP.keep0 c6
              replace hcz := hcz.then c6
              clear c6
              go_wp2_with fail
              refine hK.out _ _ ?_ (fun hHeld => ?_)
              · exact ⟨ex.c0, ex.c1, ex.c2, hb.c0, hb.c1, hb.c2⟩
              clear hK K'
              try simp only [Act.put, List.setIfInBounds_toArray, List.set_cons_zero, List.set_cons_succ]
              refine wpAnyH_take (i := 10) (v := ?_) rfl (by kernel_rfl) (by kernel_rfl) (by kernel_rfl) (fun _ _ _ h => h) (Or.inl ⟨by rfl, ?_⟩) (by assumption) ?_
              rotate_left 1
              · intro w hSw
                try dsimp only at hSw
                go_simp
                try with_reducible rfl
              try simp only [Act.put, List.setIfInBounds_toArray]
              refine wpAnyH_take (i := 11) (v := ?_) rfl (by kernel_rfl) (by kernel_rfl) (by kernel_rfl) (fun _ _ _ h => h) (Or.inl ⟨by rfl, ?_⟩) (by assumption) ?_
              rotate_left 1
              · intro w hSw
                try dsimp only at hSw
                go_simp
                try with_reducible rfl
              try simp only [Act.put]
              refine wpAnyH_take (i := 12) (v := ?_) rfl (by kernel_rfl) (by kernel_rfl) (by kernel_rfl) (fun _ _ _ h => h) (Or.inl ⟨by rfl, ?_⟩) (by assumption) ?_
              rotate_left 1
              · intro w hSw
                try dsimp only at hSw
                go_simp
                try with_reducible rfl
              try simp only [Act.put]
              refine wpAnyH_ready (rs := [14]) (by kernel_rfl) (by simp) ?_
              refine AllReadyH.cons (o := _) rfl (fun K' hK => ?_) AllReadyH.nil
              have bPc0 := bP.c0
              have bPc1 := bP.c1
              have bPc2 := bP.c2
              have bPf0 := bP.f0
              have bPf1 := bP.f1
              have bPf2 := bP.f2
              have bPl := bP.lt
              go_simp
              refine hK.out _ _ ?_ (fun hHeld => ?_)
              · exact ⟨(ex.st2 (by omega) _ _ _).c0, (ex.st2 (by omega) _ _ _).c1, (ex.st2 (by omega) _ _ _).c2, (hb.st2 (by omega) _ _ _).c0, (hb.st2 (by omega) _ _ _).c1, (hb.st2 (by omega) _ _ _).c2⟩
              clear hK K'
              try simp only [Act.put, List.setIfInBounds_toArray, List.set_cons_zero, List.set_cons_succ]
              clear bPc0 bPc1 bPc2 bPf0 bPf1 bPf2
              refine wpAnyH_take (i := 15) (v := ?_) rfl (by kernel_rfl) (by kernel_rfl) (by kernel_rfl) (fun _ _ _ h => h) (Or.inl ⟨by rfl, ?_⟩) (by assumption) ?_
              rotate_left 1
              · intro w hSw
                try dsimp only at hSw
                go_simp
                try with_reducible rfl
              try simp only [List.getElem_toArray, List.getElem_cons_succ, List.getElem_cons_zero]
              try simp only [Act.put, List.setIfInBounds_toArray, List.set_cons_zero, List.set_cons_succ]
              refine wpAnyH_done (by kernel_rfl) ?_ _
              go_wp2_with fail
              go_meet
              exact ⟨⟨_, zz, rfl, rfl, HZZ.out, bP.store _ _ _⟩, hcz.store3 (.inr la) _ _ _⟩
            refine AllReadyH.cons (o := _) rfl (fun K' hK => ?_) AllReadyH.nil
            go_simp
            refine hK.out _ _ ?_ (fun hHeld => ?_)
            · exact ⟨(ex.keep0 ((Chg.refl [] _).alloc _)).c0, (ex.keep0 ((Chg.refl [] _).alloc _)).c1, (ex.keep0 ((Chg.refl [] _).alloc _)).c2, (hb.keep0 ((Chg.refl [] _).alloc _)).c0, (hb.keep0 ((Chg.refl [] _).alloc _)).c1, (hb.keep0 ((Chg.refl [] _).alloc _)).c2⟩
            clear hK K'
            try simp only [Act.put, List.setIfInBounds_toArray, List.set_cons_zero, List.set_cons_succ]
            have bP := Blk3.alloc wk1 (.bool false) (.string ⟨#[]⟩) (.string ⟨#[]⟩) 38
            have c9 : Chg [] wk1 (wk1.alloc (.cells #[.bool false, .string ⟨#[]⟩, .string ⟨#[]⟩] 38)) := (Chg.refl _ _).alloc _
            have la : _ ≤ wk1.heap.size := hcz.size
            have lg : _ < wk1.heap.size := hb.lt
            have lx : _ < wk1.heap.size := ex.lt
            replace ex := ex.keep0 c9
            replace hb := hb.keep0 c9
            replace hcz := hcz.then c9
            clear c9
            obtain ⟨wq7, HWwq7⟩ := name_it (wk1.alloc (.cells #[.bool false, .string ⟨#[]⟩, .string ⟨#[]⟩] 38))
            obtain ⟨gP, HGgP⟩ := name_it wk1.heap.size
            rw [HWwq7.out] at ex hb bP hcz hHeld ⊢
            rw [HGgP.out] at bP la lg lx ⊢
            refine wpAnyH_ready (rs := [7]) (by kernel_rfl) (by simp) ?_
            refine AllReadyH.cons (o := _) rfl (fun K' hK => ?_) AllReadyH.nil
            go_simp
            refine (MultiplyN zt x (t : Rat) (ratOf x) 8 8 _ HZT.out.num NX.out (by omega)).mono ?_
            rintro e9 wk8 ⟨zm, rfl, hzm, c6⟩
            have HZM := Lib.hid hzm
            clear hzm
            replace ex := ex.keep0 c6
            replace hb := hb.keep0 c6
            replace bP := bP.keep0 c6
            replace hcz := hcz.then c6
            clear c6
            go_wp2_with fail
            refine hK.out _ _ ?_ (fun hHeld => ?_)
            · exact ⟨ex.c0, ex.c1, ex.c2, hb.c0, hb.c1, hb.c2⟩
            clear hK K'
            try simp only [Act.put, List.setIfInBounds_toArray, List.set_cons_zero, List.set_cons_succ]
            refine wpAnyH_ready (rs := [9]) (by kernel_rfl) (by simp) ?_
            refine AllReadyH.cons (o := _) rfl (fun K' hK => ?_) AllReadyH.nil
            go_simp
            refine (DivideN zm zs ((t : Rat) * ratOf x) (sq false S D) (8 + 8) (n * (8 + 2) + 1) _ HZM.out.num HZ.out HS0.out (by omega)).mono ?_
            rintro e9 wk9 ⟨zz, rfl, hzz, c6⟩
            rw [HEQ.out] at hzz
            have HZZ := Lib.hid hzz
            clear hzz
            replace ex := ex.keep0 c6
            replace hb := hb.keep0 c6
            replace bP := bP.keep0 c6
            replace hcz := hcz.then c6
            clear c6
            go_wp2_with fail
            refine hK.out _ _ ?_ (fun hHeld => ?_)
            · exact ⟨ex.c0, ex.c1, ex.c2, hb.c0, hb.c1, hb.c2⟩
            clear hK K'
            try simp only [Act.put, List.setIfInBounds_toArray, List.set_cons_zero, List.set_cons_succ]
            refine wpAnyH_take (i := 10) (v := ?_) rfl (by kernel_rfl) (by kernel_rfl) (by kernel_rfl) (fun _ _ _ h => h) (Or.inl ⟨by rfl, ?_⟩) (by assumption) ?_
            rotate_left 1
            · intro w hSw
              try dsimp only at hSw
              go_simp
              try with_reducible rfl
            try simp only [Act.put, List.setIfInBounds_toArray]
            refine wpAnyH_take (i := 11) (v := ?_) rfl (by kernel_rfl) (by kernel_rfl) (by kernel_rfl) (fun _ _ _ h => h) (Or.inl ⟨by rfl, ?_⟩) (by assumption) ?_
            rotate_left 1
            · intro w hSw
              try dsimp only at hSw
              go_simp
              try with_reducible rfl
            try simp only [Act.put]
            refine wpAnyH_take (i := 12) (v := ?_) rfl (by kernel_rfl) (by kernel_rfl) (by kernel_rfl) (fun _ _ _ h => h) (Or.inl ⟨by rfl, ?_⟩) (by assumption) ?_
            rotate_left 1
            · intro w hSw
              try dsimp only at hSw
              go_simp
              try with_reducible rfl
            try simp only [Act.put]
            refine wpAnyH_ready (rs := [14]) (by kernel_rfl) (by simp) ?_
            refine AllReadyH.cons (o := _) rfl (fun K' hK => ?_) AllReadyH.nil
            have bPc0 := bP.c0
            have bPc1 := bP.c1
            have bPc2 := bP.c2
            have bPf0 := bP.f0
            have bPf1 := bP.f1
            have bPf2 := bP.f2
            have bPl := bP.lt
            go_simp
            refine hK.out _ _ ?_ (fun hHeld => ?_)
            · exact ⟨(ex.st2 (by omega) _ _ _).c0, (ex.st2 (by omega) _ _ _).c1, (ex.st2 (by omega) _ _ _).c2, (hb.st2 (by omega) _ _ _).c0, (hb.st2 (by omega) _ _ _).c1, (hb.st2 (by omega) _ _ _).c2⟩
            clear hK K'
            try simp only [Act.put, List.setIfInBounds_toArray, List.set_cons_zero, List.set_cons_succ]
            clear bPc0 bPc1 bPc2 bPf0 bPf1 bPf2
            refine wpAnyH_take (i := 15) (v := ?_) rfl (by kernel_rfl) (by kernel_rfl) (by kernel_rfl) (fun _ _ _ h => h) (Or.inl ⟨by rfl, ?_⟩) (by assumption) ?_
            rotate_left 1
            · intro w hSw
              try dsimp only at hSw
              go_simp
              try with_reducible rfl
            try simp only [List.getElem_toArray, List.getElem_cons_succ, List.getElem_cons_zero]
            try simp only [Act.put, List.setIfInBounds_toArray, List.set_cons_zero, List.set_cons_succ]
            refine wpAnyH_done (by kernel_rfl) ?_ _
            go_wp2_with fail
            go_meet
            exact ⟨⟨_, zz, rfl, rfl, HZZ.out, bP.store _ _ _⟩, hcz.store3 (.inr la) _ _ _⟩
          refine AllReadyH.cons (o := _) rfl (fun K' hK => ?_) AllReadyH.nil
          go_simp
          refine hK.out _ _ ?_ (fun hHeld => ?_)
          · exact ⟨(ex.keep0 ((Chg.refl [] _).alloc _)).c0, (ex.keep0 ((Chg.refl [] _).alloc _)).c1, (ex.keep0 ((Chg.refl [] _).alloc _)).c2, (hb.keep0 ((Chg.refl [] _).alloc _)).c0, (hb.keep0 ((Chg.refl [] _).alloc _)).c1, (hb.keep0 ((Chg.refl [] _).alloc _)).c2⟩
          clear hK K'
          try simp only [Act.put, List.setIfInBounds_toArray, List.set_cons_zero, List.set_cons_succ]
          have bP := Blk3.alloc wz (.bool false) (.string ⟨#[]⟩) (.string ⟨#[]⟩) 38
          have c9 : Chg [] wz (wz.alloc (.cells #[.bool false, .string ⟨#[]⟩, .string ⟨#[]⟩] 38)) := (Chg.refl _ _).alloc _
          have la : _ ≤ wz.heap.size := hcz.size
          have lg : _ < wz.heap.size := hb.lt
          have lx : _ < wz.heap.size := ex.lt
          replace ex := ex.keep0 c9
          replace hb := hb.keep0 c9
          replace hcz := hcz.then c9
          clear c9
          obtain ⟨wq10, HWwq10⟩ := name_it (wz.alloc (.cells #[.bool false, .string ⟨#[]⟩, .string ⟨#[]⟩] 38))
          obtain ⟨gP, HGgP⟩ := name_it wz.heap.size
          rw [HWwq10.out] at ex hb bP hcz hHeld ⊢
          rw [HGgP.out] at bP la lg lx ⊢
          refine wpAnyH_ready (rs := [2]) (by kernel_rfl) (by simp) ?_
          refine AllReadyH.cons (o := _) rfl (fun K' hK => ?_) AllReadyH.nil
          go_simp
          refine (IntV t _ (by omega) (by omega)).mono ?_
          rintro e9 wk11 ⟨zt, rfl, hzt, c6⟩
          have HZT := Lib.hid hzt
          clear hzt
          replace ex := ex.keep0 c6
          replace hb := hb.keep0 c6
          replace bP := bP.keep0 c6
          replace hcz := hcz.then c6
          clear c6
          go_wp2_with fail
          refine hK.out _ _ ?_ (fun hHeld => ?_)
          · exact ⟨ex.c0, ex.c1, ex.c2, hb.c0, hb.c1, hb.c2⟩
          clear hK K'
          try simp only [Act.put, List.setIfInBounds_toArray, List.set_cons_zero, List.set_cons_succ]
          refine wpAnyH_ready (rs := [7]) (by kernel_rfl) (by simp) ?_
          refine AllReadyH.cons (o := _) rfl (fun K' hK => ?_) AllReadyH.nil
          go_simp
          refine (MultiplyN zt x (t : Rat) (ratOf x) 8 8 _ HZT.out.num NX.out (by omega)).mono ?_
          rintro e9 wk12 ⟨zm, rfl, hzm, c6⟩
          have HZM := Lib.hid hzm
          clear hzm
          replace ex := ex.keep0 c6
          replace hb := hb.keep0 c6
          replace bP := bP.keep0 c6
          replace hcz := hcz.then c6
          clear c6
          go_wp2_with fail
          refine hK.out _ _ ?_ (fun hHeld => ?_)
          · exact ⟨ex.c0, ex.c1, ex.c2, hb.c0, hb.c1, hb.c2⟩
          clear hK K'
          try simp only [Act.put, List.setIfInBounds_toArray, List.set_cons_zero, List.set_cons_succ]
          refine wpAnyH_ready (rs := [9]) (by kernel_rfl) (by simp) ?_
          refine AllReadyH.cons (o := _) rfl (fun K' hK => ?_) AllReadyH.nil
          go_simp
          refine (DivideN zm zs ((t : Rat) * ratOf x) (sq false S D) (8 + 8) (n * (8 + 2) + 1) _ HZM.out.num HZ.out HS0.out (by omega)).mono ?_
          rintro e9 wk13 ⟨zz, rfl, hzz, c6⟩
          rw [HEQ.out] at hzz
          have HZZ := Lib.hid hzz
          clear hzz
          replace ex := ex.keep0 c6
          replace hb := hb.keep0 c6
          replace bP := bP.keep0 c6
          replace hcz := hcz.then c6
          clear c6
          go_wp2_with fail
          refine hK.out _ _ ?_ (fun hHeld => ?_)
          · exact ⟨ex.c0, ex.c1, ex.c2, hb.c0, hb.c1, hb.c2⟩
          clear hK K'
          try simp only [Act.put, List.setIfInBounds_toArray, List.set_cons_zero, List.set_cons_succ]
          refine wpAnyH_take (i := 10) (v := ?_) rfl (by kernel_rfl) (by kernel_rfl) (by kernel_rfl) (fun _ _ _ h => h) (Or.inl ⟨by rfl, ?_⟩) (by assumption) ?_
          rotate_left 1
          · intro w hSw
            try dsimp only at hSw
            go_simp
            try with_reducible rfl
          try simp only [Act.put, List.setIfInBounds_toArray]
          refine wpAnyH_take (i := 11) (v := ?_) rfl (by kernel_rfl) (by kernel_rfl) (by kernel_rfl) (fun _ _ _ h => h) (Or.inl ⟨by rfl, ?_⟩) (by assumption) ?_
          rotate_left 1
          · intro w hSw
            try dsimp only at hSw
            go_simp
            try with_reducible rfl
          try simp only [Act.put]
          refine wpAnyH_take (i := 12) (v := ?_) rfl (by kernel_rfl) (by kernel_rfl) (by kernel_rfl) (fun _ _ _ h => h) (Or.inl ⟨by rfl, ?_⟩) (by assumption) ?_
          rotate_left 1
          · intro w hSw
            try dsimp only at hSw
            go_simp
            try with_reducible rfl
          try simp only [Act.put]
          refine wpAnyH_ready (rs := [14]) (by kernel_rfl) (by simp) ?_
          refine AllReadyH.cons (o := _) rfl (fun K' hK => ?_) AllReadyH.nil
          have bPc0 := bP.c0
          have bPc1 := bP.c1
          have bPc2 := bP.c2
          have bPf0 := bP.f0
          have bPf1 := bP.f1
          have bPf2 := bP.f2
          have bPl := bP.lt
          go_simp
          refine hK.out _ _ ?_ (fun hHeld => ?_)
          · exact ⟨(ex.st2 (by omega) _ _ _).c0, (ex.st2 (by omega) _ _ _).c1, (ex.st2 (by omega) _ _ _).c2, (hb.st2 (by omega) _ _ _).c0, (hb.st2 (by omega) _ _ _).c1, (hb.st2 (by omega) _ _ _).c2⟩
          clear hK K'
          try simp only [Act.put, List.setIfInBounds_toArray, List.set_cons_zero, List.set_cons_succ]
          clear bPc0 bPc1 bPc2 bPf0 bPf1 bPf2
          refine wpAnyH_take (i := 15) (v := ?_) rfl (by kernel_rfl) (by kernel_rfl) (by kernel_rfl) (fun _ _ _ h => h) (Or.inl ⟨by rfl, ?_⟩) (by assumption) ?_
          rotate_left 1
          · intro w hSw
            try dsimp only at hSw
            go_simp
            try with_reducible rfl
          try simp only [List.getElem_toArray, List.getElem_cons_succ, List.getElem_cons_zero]
          try simp only [Act.put, List.setIfInBounds_toArray, List.set_cons_zero, List.set_cons_succ]
          refine wpAnyH_done (by kernel_rfl) ?_ _
          go_wp2_with fail
          go_meet
          exact ⟨⟨_, zz, rfl, rfl, HZZ.out, bP.store _ _ _⟩, hcz.store3 (.inr la) _ _ _⟩
        case rest =>
          obtain ⟨⟨g10, ze, rfl, rfl, hze, b10⟩, c9⟩ := hcut
          have HE := Lib.hid hze
          have hc2 := hc1.then c9
          replace ca := ca.keep0 c9
          clear c9 hze ex hb
          rename World => wy1
          go_wp2_with fail
          go_cut [12] (fun pv wx => KE1 wy1 wx pv ((fi : Rat) - qE) (8 + (8 + 8 + (n * (8 + 2) + 1)) + 1))
          case first =>
            have hcz : Chg [] wy1 wy1.drew := (Chg.refl _ _).drew
            have hb := b10.keep0 hcz
            replace ca := ca.keep0 hcz
            clear hch hc1 hc2 b8 hrd hf b10
            refine wp_region_held_drew (S := (fun w' => w'.cell? ⟨h5, i, none⟩ = some (.int .i64 fi) ∧ w'.cell? ⟨g10, 0, none⟩ = some (.bool ze.neg) ∧ w'.cell? ⟨g10, 1, none⟩ = some (.string ze.num) ∧ w'.cell? ⟨g10, 2, none⟩ = some (.string ze.den))) (by kernel_rfl) ?_ (fun hHeld => ?_)
            · exact ⟨ca.c0, hb.c0, hb.c1, hb.c2⟩
            obtain ⟨wz, HWz⟩ := name_it wy1.drew
            rw [HWz.out] at ca hb hcz hHeld ⊢
            refine wpAnyH_take (i := 0) (v := ?_) rfl (by kernel_rfl) (by kernel_rfl) (by kernel_rfl) (fun _ _ _ h => h) (Or.inl ⟨by rfl, ?_⟩) (by assumption) ?_
            rotate_left 1
            · intro w hSw
              try dsimp only at hSw
              go_simp
              try with_reducible rfl
            try simp only [Act.put, List.setIfInBounds_toArray]
            refine wpAnyH_take (i := 1) (v := ?_) rfl (by kernel_rfl) (by kernel_rfl) (by kernel_rfl) (fun _ _ _ h => h) (Or.inl ⟨by rfl, ?_⟩) (by assumption) ?_
            rotate_left 1
            · intro w hSw
              try dsimp only at hSw
              go_simp
              try with_reducible rfl
            try simp only [Act.put]
            refine wpAnyH_take (i := 5) (v := ?_) rfl (by kernel_rfl) (by kernel_rfl) (by kernel_rfl) (fun _ _ _ h => h) (Or.inl ⟨by rfl, ?_⟩) (by assumption) ?_
            rotate_left 1
            · intro w hSw
              try dsimp only at hSw
              go_simp
              try with_reducible rfl
            try simp only [Act.put]
            refine wpAnyH_take (i := 2) (v := ?_) rfl (by kernel_rfl) (by kernel_rfl) (by kernel_rfl) (fun _ _ _ h => h) (Or.inl ⟨by rfl, ?_⟩) (by assumption) ?_
            rotate_left 1
            · intro w hSw
              try dsimp only at hSw
              go_simp
              try with_reducible rfl
            try simp only [Act.put]
            refine wpAnyH_take (i := 3) (v := ?_) rfl (by kernel_rfl) (by kernel_rfl) (by kernel_rfl) (fun _ _ _ h => h) (Or.inl ⟨by rfl, ?_⟩) (by assumption) ?_
            rotate_left 1
            · intro w hSw
              try dsimp only at hSw
              go_simp
              try with_reducible rfl
            try simp only [Act.put]
            refine wpAnyH_ready (rs := [4, 7]) (by kernel_rfl) (by simp) ?_
            refine AllReadyH.cons (o := _) rfl (fun K' hK => ?_) ?_
            · go_simp
              refine (IntV fi _ (by omega) (by omega)).mono ?_
              rintro e9 wk1 ⟨za, rfl, hza, c6⟩
              have HZA := Lib.hid hza
              clear hza
              replace ca := ca.keep0 c6
              replace hb := hb.keep0 c6
              replace hcz := hcz.then c6
              clear c6
              go_wp2_with fail
              refine hK.out _ _ ?_ (fun hHeld => ?_)
              · exact ⟨ca.c0, hb.c0, hb.c1, hb.c2⟩
              clear hK K'
              try simp only [Act.put, List.setIfInBounds_toArray, List.set_cons_zero, List.set_cons_succ]
              refine wpAnyH_ready (rs := [6, 7]) (by kernel_rfl) (by simp) ?_
              refine AllReadyH.cons (o := _) rfl (fun K' hK => ?_) ?_
              · go_simp
                refine (SubtractN za ze (fi : Rat) qE 8 (8 + 8 + (n * (8 + 2) + 1)) _ HZA.out.num HE.out.num (by omega)).mono ?_
                rintro e9 wk2 ⟨zz, rfl, hzz, c6⟩
                have HZZ := Lib.hid hzz
                clear hzz
                replace ca := ca.keep0 c6
                replace hb := hb.keep0 c6
                replace hcz := hcz.then c6
                clear c6
                go_wp2_with fail
                refine hK.out _ _ ?_ (fun hHeld => ?_)
                · exact ⟨ca.c0, hb.c0, hb.c1, hb.c2⟩
                clear hK K'
                try simp only [Act.put, List.setIfInBounds_toArray, List.set_cons_zero, List.set_cons_succ]
                refine wpAnyH_ready (rs := [7]) (by kernel_rfl) (by simp) ?_
                refine AllReadyH.cons (o := _) rfl (fun K' hK => ?_) AllReadyH.nil
                go_simp
                refine hK.out _ _ ?_ (fun hHeld => ?_)
                · exact ⟨(ca.keep0 ((Chg.refl [] _).alloc _)).c0, (hb.keep0 ((Chg.refl [] _).alloc _)).c0, (hb.keep0 ((Chg.refl [] _).alloc _)).c1, (hb.keep0 ((Chg.refl [] _).alloc _)).c2⟩
                clear hK K'
                try simp only [Act.put, List.setIfInBounds_toArray, List.set_cons_zero, List.set_cons_succ]
                have bP := Blk3.alloc wk2 (.bool false) (.string ⟨#[]⟩) (.string ⟨#[]⟩) 38
                have c9 : Chg [] wk2 (wk2.alloc (.cells #[.bool false, .string ⟨#[]⟩, .string ⟨#[]⟩] 38)) := (Chg.refl _ _).alloc _
                have la : _ ≤ wk2.heap.size := hcz.size
                have lg : _ < wk2.heap.size := hb.lt
                have lx : _ < wk2.heap.size := ca.l
                replace ca := ca.keep0 c9
                replace hb := hb.keep0 c9
                replace hcz := hcz.then c9
                clear c9
                obtain ⟨wq3, HWwq3⟩ := name_it (wk2.alloc (.cells #[.bool false, .string ⟨#[]⟩, .string ⟨#[]⟩] 38))
                obtain ⟨gP, HGgP⟩ := name_it wk2.heap.size
                rw [HWwq3.out] at ca hb bP hcz hHeld ⊢
                rw [HGgP.out] at bP la lg lx ⊢
                refine wpAnyH_ready (rs := [8]) (by kernel_rfl) (by simp) ?_
                refine AllReadyH.cons (o := _) rfl (fun K' hK => ?_) AllReadyH.nil
                have bPc0 := bP.c0
                have bPc1 := bP.c1
                have bPc2 := bP.c2
                have bPf0 := bP.f0
                have bPf1 := bP.f1
                have bPf2 := bP.f2
                have bPl := bP.lt
                go_simp
                refine hK.out _ _ ?_ (fun hHeld => ?_)
                · exact ⟨(ca.st2 (by omega) _ _ _).c0, (hb.st2 (by omega) _ _ _).c0, (hb.st2 (by omega) _ _ _).c1, (hb.st2 (by omega) _ _ _).c2⟩
                clear hK K'
                try simp only [Act.put, List.setIfInBounds_toArray, List.set_cons_zero, List.set_cons_succ]
                clear bPc0 bPc1 bPc2 bPf0 bPf1 bPf2
                refine wpAnyH_done (by kernel_rfl) ?_ _
                go_wp2_with fail
                go_meet
                exact ⟨⟨_, zz, rfl, HZZ.out, bP.store _ _ _⟩, hcz.store3 (.inr la) _ _ _⟩
              refine AllReadyH.cons (o := _) rfl (fun K' hK => ?_) AllReadyH.nil
              go_simp
              refine hK.out _ _ ?_ (fun hHeld => ?_)
              · exact ⟨(ca.keep0 ((Chg.refl [] _).alloc _)).c0, (hb.keep0 ((Chg.refl [] _).alloc _)).c0, (hb.keep0 ((Chg.refl [] _).alloc _)).c1, (hb.keep0 ((Chg.refl [] _).alloc _)).c2⟩
              clear hK K'
              try simp only [Act.put, List.setIfInBounds_toArray, List.set_cons_zero, List.set_cons_succ]
              have bP := Blk3.alloc wk1 (.bool false) (.string ⟨#[]⟩) (.string ⟨#[]⟩) 38
              have c9 : Chg [] wk1 (wk1.alloc (.cells #[.bool false, .string ⟨#[]⟩, .string ⟨#[]⟩] 38)) := (Chg.refl _ _).alloc _
              have la : _ ≤ wk1.heap.size := hcz.size
              have lg : _ < wk1.heap.size := hb.lt
              have lx : _ < wk1.heap.size := ca.l
              replace ca := ca.keep0 c9
              replace hb := hb.keep0 c9
              replace hcz := hcz.then c9
              clear c9
              obtain ⟨wq4, HWwq4⟩ := name_it (wk1.alloc (.cells #[.bool false, .string ⟨#[]⟩, .string ⟨#[]⟩] 38))
              obtain ⟨gP, HGgP⟩ := name_it wk1.heap.size
              rw [HWwq4.out] at ca hb bP hcz hHeld ⊢
              rw [HGgP.out] at bP la lg lx ⊢
              refine wpAnyH_ready (rs := [6]) (by kernel_rfl) (by simp) ?_
              refine AllReadyH.cons (o := _) rfl (fun K' hK => ?_) AllReadyH.nil
              go_simp
              refine (SubtractN za ze (fi : Rat) qE 8 (8 + 8 + (n * (8 + 2) + 1)) _ HZA.out.num HE.out.num (by omega)).mono ?_
              rintro e9 wk5 ⟨zz, rfl, hzz, c6⟩
              have HZZ := Lib.hid hzz
              clear hzz
              replace ca := ca.keep0 c6
              replace hb := hb.keep0 c6
              replace bP := bP.keep0 c6
              replace hcz := hcz.then c6
              clear c6
              go_wp2_with fail
              refine hK.out _ _ ?_ (fun hHeld => ?_)
              · exact ⟨ca.c0, hb.c0, hb.c1, hb.c2⟩
              clear hK K'
              try simp only [Act.put, List.setIfInBounds_toArray, List.set_cons_zero, List.set_cons_succ]
              refine wpAnyH_ready (rs := [8]) (by kernel_rfl) (by simp) ?_
              refine AllReadyH.cons (o := _) rfl (fun K' hK => ?_) AllReadyH.nil
              have bPc0 := bP.c0
              have bPc1 := bP.c1
              have bPc2 := bP.c2
              have bPf0 := bP.f0
              have bPf1 := bP.f1
              have bPf2 := bP.f2
              have bPl := bP.lt
              go_simp
              refine hK.out _ _ ?_ (fun hHeld => ?_)
              · exact ⟨(ca.st2 (by omega) _ _ _).c0, (hb.st2 (by omega) _ _ _).c0, (hb.st2 (by omega) _ _ _).c1, (hb.st2 (by omega) _ _ _).c2⟩
              clear hK K'
              try simp only [Act.put, List.setIfInBounds_toArray, List.set_cons_zero, List.set_cons_succ]
              clear bPc0 bPc1 bPc2 bPf0 bPf1 bPf2
              refine wpAnyH_done (by kernel_rfl) ?_ _
              go_wp2_with fail
              go_meet
              exact ⟨⟨_, zz, rfl, HZZ.out, bP.store _ _ _⟩, hcz.store3 (.inr la) _ _ _⟩
            refine AllReadyH.cons (o := _) rfl (fun K' hK => ?_) AllReadyH.nil
            go_simp
            refine hK.out _ _ ?_ (fun hHeld => ?_)
            · exact ⟨(ca.keep0 ((Chg.refl [] _).alloc _)).c0, (hb.keep0 ((Chg.refl [] _).alloc _)).c0, (hb.keep0 ((Chg.refl [] _).alloc _)).c1, (hb.keep0 ((Chg.refl [] _).alloc _)).c2⟩
            clear hK K'
            try simp only [Act.put, List.setIfInBounds_toArray, List.set_cons_zero, List.set_cons_succ]
            have bP := Blk3.alloc wz (.bool false) (.string ⟨#[]⟩) (.string ⟨#[]⟩) 38
            have c9 : Chg [] wz (wz.alloc (.cells #[.bool false, .string ⟨#[]⟩, .string ⟨#[]⟩] 38)) := (Chg.refl _ _).alloc _
            have la : _ ≤ wz.heap.size := hcz.size
            have lg : _ < wz.heap.size := hb.lt
            have lx : _ < wz.heap.size := ca.l
            replace ca := ca.keep0 c9
            replace hb := hb.keep0 c9
            replace hcz := hcz.then c9
            clear c9
            obtain ⟨wq6, HWwq6⟩ := name_it (wz.alloc (.cells #[.bool false, .string ⟨#[]⟩, .string ⟨#[]⟩] 38))
            obtain ⟨gP, HGgP⟩ := name_it wz.heap.size
            rw [HWwq6.out] at ca hb bP hcz hHeld ⊢
            rw [HGgP.out] at bP la lg lx ⊢
            refine wpAnyH_ready (rs := [4]) (by kernel_rfl) (by simp) ?_
            refine AllReadyH.cons (o := _) rfl (fun K' hK => ?_) AllReadyH.nil
            go_simp
            refine (IntV fi _ (by omega) (by omega)).mono ?_
            rintro e9 wk7 ⟨za, rfl, hza, c6⟩
            have HZA := Lib.hid hza
            clear hza
            replace ca := ca.keep0 c6
            replace hb := hb.keep0 c6
            replace bP := bP.keep0 c6
            replace hcz := hcz.then c6
            clear c6
            go_wp2_with fail
            refine hK.out _ _ ?_ (fun hHeld => ?_)
            · exact ⟨ca.c0, hb.c0, hb.c1, hb.c2⟩
            clear hK K'
            try simp only [Act.put, List.setIfInBounds_toArray, List.set_cons_zero, List.set_cons_succ]
            refine wpAnyH_ready (rs := [6]) (by kernel_rfl) (by simp) ?_
            refine AllReadyH.cons (o := _) rfl (fun K' hK => ?_) AllReadyH.nil
            go_simp
            refine (SubtractN za ze (fi : Rat) qE 8 (8 + 8 + (n * (8 + 2) + 1)) _ HZA.out.num HE.out.num (by omega)).mono ?_
            rintro e9 wk8 ⟨zz, rfl, hzz, c6⟩
            have HZZ := Lib.hid hzz
            clear hzz
            replace ca := ca.keep0 c6
            replace hb := hb.keep0 c6
            replace bP := bP.keep0 c6
            replace hcz := hcz.then c6
            clear c6
            go_wp2_with fail
            refine hK.out _ _ ?_ (fun hHeld => ?_)
            · exact ⟨ca.c0, hb.c0, hb.c1, hb.c2⟩
            clear hK K'
            try simp only [Act.put, List.setIfInBounds_toArray, List.set_cons_zero, List.set_cons_succ]
            refine wpAnyH_ready (rs := [8]) (by kernel_rfl) (by simp) ?_
            refine AllReadyH.cons (o := _) rfl (fun K' hK => ?_) AllReadyH.nil
            have bPc0 := bP.c0
            have bPc1 := bP.c1
            have bPc2 := bP.c2
            have bPf0 := bP.f0
            have bPf1 := bP.f1
            have bPf2 := bP.f2
            have bPl := bP.lt
            go_simp
            refine hK.out _ _ ?_ (fun hHeld => ?_)
            · exact ⟨(ca.st2 (by omega) _ _ _).c0, (hb.st2 (by omega) _ _ _).c0, (hb.st2 (by omega) _ _ _).c1, (hb.st2 (by omega) _ _ _).c2⟩
            clear hK K'
            try simp only [Act.put, List.setIfInBounds_toArray, List.set_cons_zero, List.set_cons_succ]
            clear bPc0 bPc1 bPc2 bPf0 bPf1 bPf2
            refine wpAnyH_done (by kernel_rfl) ?_ _
            go_wp2_with fail
            go_meet
            exact ⟨⟨_, zz, rfl, HZZ.out, bP.store _ _ _⟩, hcz.store3 (.inr la) _ _ _⟩
          case rest =>
            obtain ⟨⟨g12, zd, rfl, hzd, b12⟩, c9⟩ := hcut
            have HD := Lib.hid hzd
            have hc3 := hc2.then c9
            replace ca := ca.keep0 c9
            replace b10 := b10.keep0 c9
            clear c9 hzd hc1 hc2
            rename World => wy2
            have d1 : decide (fi < 0) = false := decide_eq_false (by omega)
            go_wp2_with fail
            have hcz : Chg [] wy2 wy2.drew := (Chg.refl _ _).drew
            have hb := b12.keep0 hcz
            replace ca := ca.keep0 hcz
            have B10 := Lib.hid b10
            have HC3 := Lib.hid hc3
            have HCH := Lib.hid hch
            clear hch hc3 b8 b10 b12
            go_region_held3 (fun w' => w'.cell? ⟨h5, i, none⟩ = some (.int .i64 fi) ∧ w'.cell? ⟨g12, 0, none⟩ = some (.bool zd.neg) ∧ w'.cell? ⟨g12, 1, none⟩ = some (.string zd.num) ∧ w'.cell? ⟨g12, 2, none⟩ = some (.string zd.den)) (exact ⟨ca.c0, hb.c0, hb.c1, hb.c2⟩) (first
              | (go_at_call 17
                 first
                   | ((with_reducible refine (IntV 1 _ (by omega) (by omega)).mono ?_)
                      rintro e w8 ⟨zo, rfl, hzo, c5⟩
                      have HO := Lib.hid hzo
                      replace ca := ca.keep0 c5
                      replace hb := hb.keep0 c5
                      replace hcz := hcz.then c5
                      clear c5 hzo)
                   | ((with_reducible refine (IntV (-1) _ (by omega) (by omega)).mono ?_)
                      rintro e w8 ⟨zm, rfl, hzm, c5⟩
                      have HM := Lib.hid hzm
                      replace ca := ca.keep0 c5
                      replace hb := hb.keep0 c5
                      replace hcz := hcz.then c5
                      clear c5 hzm))
              | (go_at_call 25
                 first
                   | ((with_reducible refine (CompareN zd zo ((fi : Rat) - qE) ((1 : Int) : Rat) (8 + (8 + 8 + (n * (8 + 2) + 1)) + 1) 8 _ HD.out.num HO.out.num (by omega)).mono ?_)
                      rintro e w8 ⟨rfl, c5⟩
                      rw [HE2.out.1]
                      replace ca := ca.keep0 c5
                      replace hb := hb.keep0 c5
                      replace hcz := hcz.then c5
                      clear c5)
                   | ((with_reducible refine (CompareN zd zm ((fi : Rat) - qE) ((-1 : Int) : Rat) (8 + (8 + 8 + (n * (8 + 2) + 1)) + 1) 8 _ HD.out.num HM.out.num (by omega)).mono ?_)
                      rintro e w8 ⟨rfl, c5⟩
                      rw [HE2.out.2]
                      replace ca := ca.keep0 c5
                      replace hb := hb.keep0 c5
                      replace hcz := hcz.then c5
                      clear c5))
              | fail)
            have b10 := B10.out.keep0 hcz
            have hc4 := HC3.out.then hcz
            clear HC3 B10 hcz
            by_cases hd1 : qE.den = 1
            · have e15 : (ze.den.toList == []) = true := by rw [den_emp HE.out, hd1]; rfl
              have sg0 := HE4.out ze _ HE.out hd1
              have b10c0 := b10.c0
              have b10c1 := b10.c1
              have b10c2 := b10.c2
              have b10f0 := b10.f0
              have b10f1 := b10.f1
              have b10f2 := b10.f2
              have b10l := b10.lt
              have hbc0 := hb.c0
              have hbc1 := hb.c1
              have hbc2 := hb.c2
              have hbf0 := hb.f0
              have hbf1 := hb.f1
              have hbf2 := hb.f2
              have hbl := hb.lt
              go_wp2_with fail
              clear b10c0 b10c1 b10c2 b10f0 b10f1 b10f2 b10l hbc0 hbc1 hbc2 hbf0 hbf1 hbf2 hbl
              refine (SignN zd _ _ _ HD.out.num (by omega)).mono ?_
              rintro e w9 ⟨rfl, c6⟩
              replace hc4 := hc4.then c6
              clear c6
              rw [sg0]
              go_wp2_with fail
              go_roundw
              case rel => exact ⟨i + 1, by omega, by go_num, hc4⟩
              case measure => simp [intOf]; omega
            · have e15 : (ze.den.toList == []) = false := by rw [den_emp HE.out]; simp [hd1]
              have b10c0 := b10.c0
              have b10c1 := b10.c1
              have b10c2 := b10.c2
              have b10f0 := b10.f0
              have b10f1 := b10.f1
              have b10f2 := b10.f2
              have b10l := b10.lt
              go_wp2_with fail
              clear b10c0 b10c1 b10c2 b10f0 b10f1 b10f2 b10l
              go_roundw
              case rel => exact ⟨i + 1, by omega, by go_num, hc4⟩
              case measure => simp [intOf]; omega
      · have d0 : decide ((i : Int) < (n : Int)) = false := decide_eq_false (by omega)
        go_wp2_with fail
        refine (awake4_any _).mono ?_
        rintro e w7 ⟨rfl, c3⟩
        have hch2 := (hch.then hc1).then c3
        clear c3
        go_wp2_with fail
        go_ret
        exact ⟨rfl, hch2⟩
end Go.Proofs.Ytikeoiakicpleaa
