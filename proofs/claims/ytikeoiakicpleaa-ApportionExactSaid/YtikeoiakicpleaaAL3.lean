/-
  Of law 4: Order.
-/
import Derived.Test.YtikeoiakicpleaaAL0
import Derived.Test.YtikeoiakicpleaaALS
import Derived.Test.YtikeoiakicpleaaAL1
namespace Go.Proofs.Ytikeoiakicpleaa
open Go.RowKit Nd

theorem Sum_list (zs : List Q3) (A : Option Addr) (cap k n : Nat) (w : World) (hn : zs.length = n) (hf : ∀ x ∈ zs, fits x k) (hk : 1 ≤ k) (hc : n ≤ cap) (hcm : cap ≤ 9223372036854775807) (hb : n * (k + 2) ≤ 34359738367) (hx : Rds w A zs) :
    Calls Try.prog 19 #[.slice A n cap] w fun e w' => ∃ z, e = .returned (.agg #[.bool z.neg, .string z.num, .string z.den]) ∧ Val z (sumQ zs) (n * (k + 2) + 1) ∧ Chg [] w w' := by
  subst hn
  by_cases h0 : zs.length = 0
  · have hz : zs = [] := List.eq_nil_of_length_eq_zero h0
    subst hz
    exact (Sum_nil A cap w).mono fun _ _ ⟨z, he, hv, hc⟩ => ⟨z, he, hv.mono (by omega), hc⟩
  · exact (Sum_upto zs.length zs.length (by omega) (Nat.le_refl _) zs A cap k w rfl hf hk hc hcm hb hx).mono fun _ _ ⟨z, he, hv, hc⟩ => ⟨z, he, hv.mono (by omega), hc⟩
theorem Com.take {xs : List Q3} {n : Nat} {N : Nat → Nat} {D : Nat} (h : Com xs n N D) (hn : xs.length = n) : ∀ k, k ≤ n → sumQ (xs.take k) = sq false (apS N k) D
  | 0, _ => by rw [List.take_zero]; exact (sq_zero false D).symm
  | k + 1, hk => by
    have hp := h.pos
    rw [sumQ_snoc xs (by omega), h.take hn k (by omega), h.eq k (by omega), sum_same false (by omega)]
    rfl
theorem Com.sum {xs : List Q3} {n : Nat} {N : Nat → Nat} {D : Nat} (h : Com xs n N D) (hn : xs.length = n) : sumQ xs = sq false (apS N n) D := by
  have := h.take hn n (Nat.le_refl n)
  rwa [List.take_of_length_le (by omega)] at this
/-- What the parts of a total keep. -/
structure Prt (t n : Nat) (N f : Nat → Nat) : Prop where
  le : ∀ i, i < n → f i ≤ t
  sum : apS f n = t
  gt : ∀ i k, i < n → k < n → N k < N i → f k ≤ f i
  eq : ∀ i k, i < n → k < n → N k = N i → i < k → f k ≤ f i ∧ f i ≤ f k + 1
theorem prt_of {N : Nat → Nat} {t n : Nat} (h0 : apS N n ≠ 0) (ht : t ≤ 9223372036854775807) : Prt t n N (resA (fun i => t * N i) (apS N n) n) := by
  have hF := Fin1.of (by omega) (split_ok h0 ht)
  have hs : apS (resA (fun i => t * N i) (apS N n) n) n = t := by
    rw [resA_sum hF, apS_mul, Nat.mul_div_cancel _ (Nat.pos_of_ne_zero h0)]
  have hl : ∀ i, i < n → resA (fun i => t * N i) (apS N n) n i ≤ t := fun i hi => by
    have := apS_get (N := resA (fun i => t * N i) (apS N n) n) hi
    omega
  refine ⟨hl, hs, fun i k hi hk h => ?_, fun i k hi hk h hik => resA_eq hi hk (by simp only [h]) hik⟩
  by_cases e : t = 0
  · have := hl k hk
    omega
  · exact resA_mono hi hk ((Nat.mul_lt_mul_left (by omega)).2 h)
theorem com_qo {xs : List Q3} {n : Nat} {N : Nat → Nat} {D : Nat} (h : Com xs n N D) {i k : Nat} (hi : i < n) (hk : k < n) :
    (0 < qo (ratOf (xs.getD i q0)) (ratOf (xs.getD k q0)) → N k < N i) ∧ (qo (ratOf (xs.getD i q0)) (ratOf (xs.getD k q0)) = 0 → N k = N i) := by
  have hp := h.pos
  rw [h.eq i hi, h.eq k hk, qo_same (by omega)]
  unfold ord
  refine ⟨fun h => ?_, fun h => ?_⟩
  · split at h
    · exact absurd h (by decide)
    · split at h
      · omega
      · exact absurd h (by decide)
  · split at h
    · exact absurd h (by decide)
    · split at h
      · exact absurd h (by decide)
      · omega

set_option maxRecDepth 20000 in
set_option maxHeartbeats 8000000 in
theorem laorder_any (t : Int) (L : List Int) (l : Nat) (A : Option Addr) (cap : Nat) (w : World) (ht : 0 ≤ t ∧ t ≤ 4294967295) (hl : L.length = l) (hl2 : l ≤ 9223372036854775807) (hL : ∀ x, x ∈ L → 0 ≤ x ∧ x ≤ 65535) (hx : RdW w A L) :
    Calls Try.prog 7 #[.int .u32 t, .slice A l cap] w fun e w' => e = .returned (.bool true) ∧ Chg [] w w' := by
  have hch : Chg [] w w := Chg.refl _ _
  have f4 : IntKind.i64.wrap t = t := by rw [IntKind.wrap_i64]; omega
  go_enter Try.func7, Try.ntmps7
  go_wp2_with fail
  refine (amounts_any L l A cap w hl hl2 hL hx).mono ?_
  rintro e w1 ⟨v, xs, rfl, hown, hw, _, c1⟩
  have HW := Lib.hid hw
  obtain ⟨n, HNN⟩ := name_it (min 12 l)
  rw [HNN.out] at HW
  have hn12 : n ≤ 12 := by have := HNN.out; omega
  replace hch := hch.then c1
  obtain ⟨A2, cap2, rfl, hcl, hcl2, hrd⟩ := hown.rds
  have hxl := HW.out.len
  rw [hxl] at hcl ⊢
  have ck1 : chkA xs = 0 := chkA_pos (by omega) HW.out.nn
  have CK1 := Lib.hid ck1
  have S1 := Lib.hid (fun w h => split_any t xs n 8 A2 cap2 w ⟨by omega, by omega⟩ hxl (by omega) (by omega) (by omega) HW.out.ok h)
  clear c1 hw hx hL hl hl2 HNN hown ck1
  go_wp2_with fail
  refine (S1.out _ hrd).mono ?_
  intro e w2 hp1
  obtain ⟨N, D, hcm, hn1, hg1⟩ := hp1.com CK1.out ht.1
  have c5 := hp1.ch
  have HCM := Lib.hid hcm
  replace hrd := hrd.keep0 c5
  replace hch := hch.then c5
  clear hp1 hcm c5 S1
  by_cases h0 : apS N n = 0
  · obtain rfl := hn1 h0
    have HS0 : Hid (sumQ xs = 0) := Lib.hid (by rw [HCM.out.sum hxl, h0]; exact sq_zero false D)
    clear hg1 hn1
    go_wp2_with fail
    refine (awake4_any _).mono ?_
    rintro e w3 ⟨rfl, c3⟩
    replace hrd := hrd.keep0 c3
    replace hch := hch.then c3
    clear c3
    go_wp2_with fail
    refine (Sum_list xs A2 cap2 8 n _ hxl HW.out.ok (by omega) hcl hcl2 (by omega) hrd).mono ?_
    rintro e w4 ⟨z, rfl, hz, c4⟩
    rw [HS0.out] at hz
    have HZ := Lib.hid hz.num
    replace hch := hch.then c4
    clear c4 hz hrd
    go_wp2_with fail
    refine (SignN z 0 _ _ HZ.out (by omega)).mono ?_
    rintro e w5 ⟨rfl, c6⟩
    replace hch := hch.then c6
    clear c6
    have e0 : sg (0 : Rat) = 0 := by decide
    rw [e0]
    go_wp2_with fail
    go_ret
    exact ⟨rfl, hch⟩
  · obtain ⟨h5, rfl, _, hf⟩ := hg1 h0
    have hpr := prt_of (t := t.toNat) h0 (by omega)
    obtain ⟨f, HF⟩ := name_it (resA (fun i => t.toNat * N i) (apS N n) n)
    rw [HF.out] at hpr hf
    have HPR := Lib.hid hpr
    clear hpr hg1 hn1 HF h0
    go_wp2_with fail
    go_loopw [36] (fun iv wx => ∃ i : Nat, i ≤ n ∧ iv = .int .i64 i ∧ Chg [] w2 wx) (fun iv _ => n - (intOf iv).toNat)
    case atStart => exact ⟨0, Nat.zero_le _, rfl, Chg.refl _ _⟩
    case round =>
      obtain ⟨i, hi, rfl, hc1⟩ := hrel
      by_cases hlt : i < n
      · have d0 : decide ((i : Int) < (n : Int)) = true := decide_eq_true (by omega)
        go_wp2_with fail
        go_loopw [41] (fun iv wx => ∃ k : Nat, k ≤ n ∧ iv = .int .i64 k ∧ Chg [] w2 wx) (fun iv _ => n - (intOf iv).toNat)
        case atStart => exact ⟨0, Nat.zero_le _, rfl, hc1⟩
        case round =>
          clear hc1
          obtain ⟨k, hk, rfl, hc1⟩ := hrel
          by_cases hlk : k < n
          · have d3 : decide ((k : Int) < (n : Int)) = true := decide_eq_true (by omega)
            go_wp2_with fail
            have c8 : Chg [] wr wr.drew := (Chg.refl _ _).drew
            have hcd := hc1.then c8
            have hrk := hrd.keep0 hcd
            clear c8 hc1
            obtain ⟨gx, ox, rfl, hgl⟩ := hrk.form (by rw [hxl]; omega)
            obtain ⟨hgw, a1, a2, a3⟩ := hrk.at_ (j := i) (by rw [hxl]; exact hlt)
            obtain ⟨_, a4, a5, a6⟩ := hrk.at_ (j := k) (by rw [hxl]; exact hlk)
            have hq := com_qo HCM.out hlt hlk
            have nx := Num.of_fits (HW.out.ok (xs.getD i q0) (mem_getD (by rw [hxl]; exact hlt))) (by omega)
            have ny := Num.of_fits (HW.out.ok (xs.getD k q0) (mem_getD (by rw [hxl]; exact hlk))) (by omega)
            obtain ⟨x, HXV⟩ := name_it (xs.getD i q0)
            obtain ⟨y, HYV⟩ := name_it (xs.getD k q0)
            rw [HXV.out] at a1 a2 a3 nx hq
            rw [HYV.out] at a4 a5 a6 ny hq
            obtain ⟨c, HC⟩ := name_it (qo (ratOf x) (ratOf y))
            rw [HC.out] at hq
            have HQ := Lib.hid hq
            have NX := Lib.hid nx
            have NY := Lib.hid ny
            have k1 : (0 : Int) ≤ (i : Int) := by omega
            have k2 : (i : Int) < (n : Int) := by omega
            have k3 : (0 : Int) ≤ (k : Int) := by omega
            have k4 : (k : Int) < (n : Int) := by omega
            clear hq nx ny hrk HXV HYV
            go_region_held3 (fun w' => w'.cell? ⟨gx, ox + i * 3, none⟩ = some (.bool x.neg) ∧ w'.cell? ⟨gx, ox + i * 3 + 1, none⟩ = some (.string x.num) ∧ w'.cell? ⟨gx, ox + i * 3 + 2, none⟩ = some (.string x.den) ∧ w'.cell? ⟨gx, ox + k * 3, none⟩ = some (.bool y.neg) ∧ w'.cell? ⟨gx, ox + k * 3 + 1, none⟩ = some (.string y.num) ∧ w'.cell? ⟨gx, ox + k * 3 + 2, none⟩ = some (.string y.den)) (exact ⟨a1, a2, a3, a4, a5, a6⟩) (first
              | (go_at_call 25
                 (with_reducible refine (CompareN x y (ratOf x) (ratOf y) 8 8 _ NX.out NY.out (by omega)).mono ?_)
                 rintro e w5 ⟨rfl, c5⟩
                 rw [HC.out]
                 have hce := hcd.then c5
                 replace a1 := (c5.cell (p := ⟨gx, _, none⟩) hgw (by simp)).trans a1
                 replace a2 := (c5.cell (p := ⟨gx, _, none⟩) hgw (by simp)).trans a2
                 replace a3 := (c5.cell (p := ⟨gx, _, none⟩) hgw (by simp)).trans a3
                 replace a4 := (c5.cell (p := ⟨gx, _, none⟩) hgw (by simp)).trans a4
                 replace a5 := (c5.cell (p := ⟨gx, _, none⟩) hgw (by simp)).trans a5
                 replace a6 := (c5.cell (p := ⟨gx, _, none⟩) hgw (by simp)).trans a6
                 clear c5)
              | fail)
            have hfe := (hf.keep0 hce)
            have p1 := hfe.cell i hlt
            have p2 := hfe.cell k hlk
            have hgt : N k < N i → ((f k : Nat) : Int) ≤ ((f i : Nat) : Int) := fun h => by have := HPR.out.gt i k hlt hlk h; omega
            have heq : N k = N i → i < k → ((f k : Nat) : Int) ≤ ((f i : Nat) : Int) ∧ ((f i : Nat) : Int) ≤ ((f k : Nat) : Int) + 1 := fun h1 h2 => by have := HPR.out.eq i k hlt hlk h1 h2; omega
            have hrk : 0 ≤ ((f k : Nat) : Int) ∧ ((f k : Nat) : Int) ≤ 4294967295 := by have := HPR.out.le k hlk; omega
            obtain ⟨fi, HFI⟩ := name_it ((f i : Nat) : Int)
            obtain ⟨fk, HFK⟩ := name_it ((f k : Nat) : Int)
            rw [HFI.out] at p1 hgt heq
            rw [HFK.out] at p2 hrk hgt heq
            have q1 : IntKind.i64.wrap (fk + 1) = fk + 1 := by rw [IntKind.wrap_i64]; omega
            have HGT := Lib.hid hgt
            have HEQ := Lib.hid heq
            clear hgw a1 a2 a3 a4 a5 a6 hf hrd hcd hgt heq HFI HFK
            by_cases g1 : 0 < c
            · have d1 : decide (0 < c) = true := decide_eq_true g1
              have d2 : decide (fi < fk) = false := decide_eq_false (by have := HGT.out (HQ.out.1 g1); omega)
              have d5 : (c == 0) = false := by simp; omega
              have d6 : ¬ c = 0 := by omega
              go_wp2_with fail
              go_quiet (fail)
              go_wp2_with fail
              have c9 := Chg.drewN (Chg.refl [] w5) nq
              go_roundw
              case rel => exact ⟨k + 1, by omega, by go_num, hce.then c9⟩
              case measure => simp [intOf]; omega
            · by_cases g2 : c = 0
              · subst g2
                have hN := HQ.out.2 rfl
                by_cases g3 : i < k
                · obtain ⟨h1, h2⟩ := HEQ.out hN g3
                  have d1 : decide ((i : Int) < (k : Int)) = true := decide_eq_true (by omega)
                  have d1b : decide (i < k) = true := decide_eq_true g3
                  have d2 : decide (fi < fk) = false := decide_eq_false (by omega)
                  have d5 : decide (fk + 1 < fi) = false := decide_eq_false (by omega)
                  go_wp2_with fail
                  go_quiet (fail)
                  go_wp2_with fail
                  have c9 := Chg.drewN (Chg.refl [] w5) nq
                  go_roundw
                  case rel => exact ⟨k + 1, by omega, by go_num, hce.then c9⟩
                  case measure => simp [intOf]; omega
                · have d1 : decide ((i : Int) < (k : Int)) = false := decide_eq_false (by omega)
                  have d1b : decide (i < k) = false := decide_eq_false g3
                  go_wp2_with fail
                  go_quiet (fail)
                  go_wp2_with fail
                  have c9 := Chg.drewN (Chg.refl [] w5) nq
                  go_roundw
                  case rel => exact ⟨k + 1, by omega, by go_num, hce.then c9⟩
                  case measure => simp [intOf]; omega
              · have d1 : decide (0 < c) = false := decide_eq_false g1
                have d5 : (c == 0) = false := by simp; omega
                go_wp2_with fail
                go_quiet (fail)
                go_wp2_with fail
                have c9 := Chg.drewN (Chg.refl [] w5) nq
                go_roundw
                case rel => exact ⟨k + 1, by omega, by go_num, hce.then c9⟩
                case measure => simp [intOf]; omega
          · have d3 : decide ((k : Int) < (n : Int)) = false := decide_eq_false (by omega)
            go_wp2_with fail
            go_roundw
            case rel => exact ⟨i + 1, by omega, by go_num, hc1⟩
            case measure => simp [intOf]; omega
      · have d0 : decide ((i : Int) < (n : Int)) = false := decide_eq_false (by omega)
        go_wp2_with fail
        refine (awake4_any _).mono ?_
        rintro e w3 ⟨rfl, c3⟩
        have hch2 := (hch.then hc1).then c3
        clear c3
        go_wp2_with fail
        go_ret
        exact ⟨rfl, hch2⟩
end Go.Proofs.Ytikeoiakicpleaa
