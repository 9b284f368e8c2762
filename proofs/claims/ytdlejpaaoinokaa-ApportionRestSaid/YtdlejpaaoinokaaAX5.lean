/-
  Apportion: rounded, for at most twenty numbers.
-/
import Derived.Test.YtdlejpaaoinokaaAX4
namespace Go.Proofs.Ytdlejpaaoinokaa
open Go.RowKit Nd

/-- Whether the sum is a whole number that fits. -/
def okS (S D : Nat) : Bool := decide (S % D = 0) && decide (S / D ≤ 9223372036854775807)
/-- What is left to be raised. -/
def lftA (N : Nat → Nat) (D n : Nat) : Nat := apS N n / D - apS (fun i => N i / D) n
/-- The result of place j. -/
def resA (N : Nat → Nat) (D n j : Nat) : Nat := N j / D + if apR (fun i => N i % D) n j < lftA N D n then 1 else 0
theorem apS_mono (f : Nat → Nat) : ∀ {i n : Nat}, i ≤ n → apS f i ≤ apS f n
  | i, 0, h => by
    obtain rfl : i = 0 := by omega
    exact Nat.le_refl _
  | i, n + 1, h => by
    by_cases e : i = n + 1
    · rw [e]; exact Nat.le_refl _
    · have := apS_mono f (i := i) (n := n) (by omega); simp only [apS]; omega
/-- The facts of a good sum. -/
structure Fin1 (N : Nat → Nat) (D n : Nat) : Prop where
  pos : 0 < D
  sum : apS (fun i => N i / D) n ≤ apS N n / D
  max : apS N n / D ≤ 9223372036854775807
  rest : apS (fun i => N i % D) n = lftA N D n * D
theorem Fin1.of {N : Nat → Nat} {D n : Nat} (hD : 0 < D) (h : okS (apS N n) D = true) : Fin1 N D n := by
  unfold okS at h
  simp only [Bool.and_eq_true, decide_eq_true_eq] at h
  obtain ⟨h1, h2⟩ := ap_rest (n := n) (N := N) hD h.1
  exact ⟨hD, h2, h.2, h1⟩
theorem Fin1.floor {N : Nat → Nat} {D n : Nat} (h : Fin1 N D n) {i : Nat} (hi : i < n) : apS (fun i => N i / D) i + N i / D ≤ apS N n / D := by
  have h1 := apS_mono (fun i => N i / D) (show i + 1 ≤ n by omega)
  have h2 := h.sum
  simp only [apS] at h1
  omega
theorem Fin1.left {N : Nat → Nat} {D n : Nat} (h : Fin1 N D n) : lftA N D n ≤ n := ap_len h.pos h.rest fun _ _ => Nat.mod_lt _ h.pos
theorem Fin1.raise {N : Nat → Nat} {D n : Nat} (h : Fin1 N D n) {i : Nat} (hi : i < n) : N i / D + lftA N D n ≤ 9223372036854775807 := by
  have h1 := h.floor hi
  have h2 := apS_mono (fun i => N i / D) (show i + 1 ≤ n by omega)
  have h3 := h.sum
  have h4 := h.max
  simp only [apS] at h2
  unfold lftA
  omega

/-- What rounded answers. -/
structure RndPost (w w' : World) (e : Ending) (ok : Bool) (n : Nat) (f : Nat → Nat) : Prop where
  bad : ok = false → e = .returned (.tuple #[.slice none 0 0, .int .i64 6])
  good : ok = true → ∃ h, e = .returned (.tuple #[.slice (some ⟨h, 0, none⟩) n n, .int .i64 0]) ∧ w.heap.size ≤ h ∧ Fb w' h n (fun j => .int .i64 ((f j : Nat) : Int))
  ch : Chg [] w w'

set_option maxRecDepth 20000 in
set_option maxHeartbeats 8000000 in
theorem rounded_any (s : Nat → ByteArray) (N : Nat → Nat) (ds : ByteArray) (D n k g cap : Nat) (w : World) (hm : n ≤ 20) (hs : NStr s N n) (hb : ∀ j, j < n → N j < 256 ^ k) (hk : k ≤ 1000000) (hd : Is ds D) (hD : 0 < D) (hDk : D < 256 ^ k) (hf : Fb w g n (fun j => .string (s j))) :
    Calls Try.prog 26 #[.slice (some ⟨g, 0, none⟩) n cap, .string ds] w fun e w' => RndPost w w' e (okS (apS N n) D) n (resA N D n) := by
  have hch : Chg [] w w := Chg.refl _ _
  have HS := Lib.hid hs
  have HB := Lib.hid hb
  have HD := Lib.hid hd
  have hds : ds.size ≤ k := Is_size hd _ hDk
  have HSUM := Lib.hid (fun w h => asum_any s N n k g cap w (by omega) hs hb (by omega) h)
  have HSB : Hid (apS N n < 256 ^ (k + 2)) := Lib.hid (apS_bound hb (by omega))
  have HFIN : Hid (okS (apS N n) D = true → Fin1 N D n) := Lib.hid (Fin1.of hD)
  have HOK : Hid (okS (apS N n) D = (decide (apS N n % D = 0) && decide (apS N n / D ≤ 9223372036854775807))) := Lib.hid rfl
  obtain ⟨ok, HOK2⟩ := name_it (okS (apS N n) D)
  rw [HOK2.out] at HFIN HOK ⊢
  obtain ⟨S, HSS⟩ := name_it (apS N n)
  rw [HSS.out] at HSUM HSB HOK
  clear hs hb hd hDk HOK2
  go_enter Try.func26, Try.ntmps26
  go_wp2_with fail
  refine (HSUM.out _ hf).mono ?_
  rintro e w1 ⟨t, rfl, ht, c1⟩
  have htz : t.size ≤ k + 2 := Is_size ht _ HSB.out
  have HT := Lib.hid ht
  replace hf := hf.keep0 c1
  replace hch := hch.then c1
  clear c1 ht
  go_wp2_with fail
  refine (Divide_any t ds _ (by omega) (by omega) (by rw [Is_val HD.out]; omega)).mono ?_
  rintro e w2 ⟨q, f, rfl, hq, hfr, c1⟩
  rw [Is_val HT.out, Is_val HD.out] at hq hfr
  have hqz : q.size ≤ k + 2 := Is_size hq _ (Nat.lt_of_le_of_lt (Nat.div_le_self _ _) HSB.out)
  have hfe : (f.toList == []) = decide (S % D = 0) := by
    have h := Is_empty hfr
    rw [← h]
    cases f.toList <;> rfl
  have HQ := Lib.hid hq
  have hvq : val q = S / D := Is_val hq
  replace hf := hf.keep0 c1
  replace hch := hch.then c1
  clear c1 hq hfr HSUM htz
  obtain ⟨b1, HB1⟩ := name_it (decide (S % D = 0))
  rw [HB1.out] at hfe HOK
  by_cases hbig : 18446744073709551616 ≤ S / D
  · have HU := Lib.hid (fun w => uint_great q w (by omega) (by rw [hvq]; exact hbig))
    have hof : ok = false := by rw [HOK.out, decide_eq_false (show ¬ S / D ≤ 9223372036854775807 by omega), Bool.and_false]
    subst hof
    clear hbig
    cases b1 with
    | false =>
      go_wp2_with (go_at_call 54; (with_reducible refine (HU.out _).mono ?_); rintro e w' ⟨rfl, rfl⟩)
      go_ret2
      exact ⟨fun _ => rfl, fun h => absurd h (by decide), hch⟩
    | true =>
      go_wp2_with (go_at_call 54; (with_reducible refine (HU.out _).mono ?_); rintro e w' ⟨rfl, rfl⟩)
      go_ret2
      exact ⟨fun _ => rfl, fun h => absurd h (by decide), hch⟩
  · have HU := Lib.hid (fun w => uint_any q w (by omega) (by rw [hvq]; omega))
    rw [hvq] at HU
    obtain ⟨L0, HL0⟩ := name_it (S / D)
    rw [HL0.out] at HU HOK hbig
    cases b1 with
    | false =>
      have hof : ok = false := by rw [HOK.out]; rfl
      subst hof
      clear hbig hvq
      go_wp2_with (go_at_call 54; (with_reducible refine (HU.out _).mono ?_); rintro e w' ⟨rfl, rfl⟩)
      go_ret2
      exact ⟨fun _ => rfl, fun h => absurd h (by decide), hch⟩
    | true =>
      by_cases hmx : L0 ≤ 9223372036854775807
      · have hof : ok = true := by rw [HOK.out, decide_eq_true hmx]; rfl
        subst hof
        have hF := HFIN.out rfl
        have HF1 := Lib.hid hF
        have d1 : decide ((9223372036854775807 : Int) < (L0 : Int)) = false := decide_eq_false (by omega)
        have d1n : decide (9223372036854775807 < L0) = false := decide_eq_false (by omega)
        have hlft : lftA N D n = L0 - apS (fun i => N i / D) n := by unfold lftA; rw [HSS.out, HL0.out]
        have HLF := Lib.hid hlft
        clear hbig hvq hF hlft
        obtain ⟨iS, hiS, hzS0, hzS1, hzS2⟩ := infoS
        obtain ⟨iL, hiL, hzL0, hzL1, hzL2⟩ := infoI64
        obtain ⟨iI, hiI, hzI0, hzI1, hzI2⟩ := infoInt
        have hw2 : w.heap.size ≤ w2.heap.size := hch.size
        have HDV : Hid (∀ i, i < n → ∀ w, ∀ u, Is u (N i) → Calls Try.prog 45 #[.string u, .string ds] w fun e w' => ∃ q r, e = .returned (.tuple #[.string q, .string r, .bool true]) ∧ Is q (N i / D) ∧ Is r (N i % D) ∧ Chg [] w w') := Lib.hid fun i hi w u hu => by
          have h := Divide_any u ds w (by have := Is_size hu _ (HB.out i hi); omega) (by omega) (by rw [Is_val HD.out]; omega)
          rw [Is_val hu, Is_val HD.out] at h
          exact h
        go_wp2_with (first
          | (go_at_call 54; (with_reducible refine (HU.out _).mono ?_); rintro e w' ⟨rfl, rfl⟩)
          | (at_make; refine wpList_makeF _ rfl (.tmp 47) (.tmp 47) 25 rfl 2 iL _ Try.underlying25 hiL hzL0 hzL1 rfl .i64 .i64 n rfl rfl (by rw [hzL2]; omega) (by omega) ?_; intro w3 hA c3)
          | (at_make; refine wpList_makeF _ rfl (.tmp 50) (.tmp 50) 53 rfl 9 iS _ Try.underlying53 hiS hzS0 hzS1 rfl .i64 .i64 n rfl rfl (by rw [hzS2]; omega) (by omega) ?_; intro w4 hR c4)
          | (at_make; refine wpList_makeF _ rfl (.tmp 53) (.tmp 53) 76 rfl 3 iI _ Try.underlying76 hiI hzI0 hzI1 rfl .i64 .i64 n rfl rfl (by rw [hzI2]; omega) (by omega) ?_; intro w5 hO c5)
          | fail)
        have ha1 := hA.lt
        have ha2 := hR.lt
        have ha0 : g < w2.heap.size := hf.lt
        have box : C1 (w4.alloc (.cells #[.slice (some ⟨w3.heap.size, 0, none⟩) n n] 53)) w4.heap.size 0 (.slice (some ⟨w3.heap.size, 0, none⟩) n n) := ⟨by simp, by simp⟩
        have c4b : Chg [] w4 (w4.alloc (.cells #[.slice (some ⟨w3.heap.size, 0, none⟩) n n] 53)) := (Chg.refl _ _).alloc _
        have ho1 : (w4.alloc (.cells #[.slice (some ⟨w3.heap.size, 0, none⟩) n n] 53)).heap.size = w4.heap.size + 1 := World.size_alloc _ _
        rw [ho1] at hO
        replace hA := ((hA.keep0 c4).keep0 c4b).keep0 c5
        replace hR := (hR.keep0 c4b).keep0 c5
        replace box := box.keep0 c5
        replace hf := (((hf.keep0 c3).keep0 c4).keep0 c4b).keep0 c5
        replace hch := (((hch.then c3).then c4).then c4b).then c5
        clear c3 c4 c4b c5 ho1 hiS hiL hiI hzS0 hzS1 hzS2 hzL0 hzL1 hzL2 hzI0 hzI1 hzI2
        obtain ⟨gA, GA⟩ := name_it w2.heap.size
        obtain ⟨gR, GR⟩ := name_it w3.heap.size
        obtain ⟨gX, GX⟩ := name_it w4.heap.size
        rw [GA.out] at hA ha0 ha1 hw2 ⊢
        rw [GR.out] at hR box ha1 ha2 ⊢
        rw [GX.out] at hO box ha2 ⊢
        obtain ⟨gO, GO⟩ := name_it (gX + 1)
        rw [GO.out] at hO ⊢
        have hgo : gX < gO := by rw [← GO.out]; omega
        clear GA GR GX GO hqz hfe
        go_loopw [9, 57] (fun lv iv wr => ∃ (i : Nat) (t : Nat → ByteArray), i ≤ n ∧ iv = .int .i64 i ∧ lv = .int .u64 ((L0 - apS (fun i => N i / D) i : Nat) : Int) ∧ (∀ j, j < i → Is (t j) (N j % D)) ∧ Fb wr gA n (fun j => .int .i64 (((if j < i then N j / D else 0) : Nat) : Int)) ∧ Fb wr gR n (fun j => .string (t j)) ∧ C1 wr gX 0 (.slice (some ⟨gR, 0, none⟩) n n) ∧ Fb wr gO n (fun j => .int .i64 (((if j < i then j else 0) : Nat) : Int)) ∧ Fb wr g n (fun j => .string (s j)) ∧ Chg [] w wr) (fun _ iv _ => n - (intOf iv).toNat)
        case atStart => exact ⟨0, fun _ => ⟨#[]⟩, Nat.zero_le _, rfl, rfl, fun j h => absurd h (by omega), hA, hR, box, hO, hf, hch⟩
        case round =>
          clear hA hR box hO hf hch
          obtain ⟨i, t, hi, rfl, rfl, ht, hA, hR, box, hO, hf, hch⟩ := hrel
          have HTT := Lib.hid ht
          clear ht
          by_cases hlt : i < n
          · have hIS := HS.out i hlt
            have HDI := Lib.hid (fun w => HDV.out i hlt w (s i) hIS)
            have hfl := HF1.out.floor hlt
            have hmx2 := HF1.out.max
            rw [HSS.out, HL0.out] at hfl hmx2
            have hc : wr.cell? ⟨g, i, none⟩ = some (.string (s i)) := hf.cell i hlt
            obtain ⟨u, HU2⟩ := name_it (s i)
            rw [HU2.out] at hc HDI
            have HSTEP : Hid (apS (fun i => N i / D) (i + 1) = apS (fun i => N i / D) i + N i / D) := Lib.hid rfl
            obtain ⟨fl, HFL⟩ := name_it (N i / D)
            obtain ⟨Ai, HAI⟩ := name_it (apS (fun i => N i / D) i)
            rw [HFL.out] at HDI hfl HSTEP
            rw [HAI.out] at hfl HSTEP
            rw [HAI.out]
            clear hIS
            have i1 : (0 : Int) ≤ (i : Int) := by omega
            have i2 : (i : Int) < (n : Int) := by omega
            go_wp2_with fail
            refine (HDI.out _).mono ?_
            rintro e w6 ⟨q6, r6, rfl, hq6, hr6, c6⟩
            have HR6 := Lib.hid hr6
            have hv6 : val q6 = fl := Is_val hq6
            have hq6z : q6.size ≤ k := Is_size hq6 _ (Nat.lt_of_le_of_lt (by rw [← HFL.out]; exact Nat.div_le_self _ _) (HB.out i hlt))
            have HUI := Lib.hid (fun w => uint_any q6 w (by omega) (by rw [hv6]; omega))
            rw [hv6] at HUI
            replace hA := hA.keep0 c6
            replace hR := hR.keep0 c6
            replace box := box.keep0 c6
            replace hO := hO.keep0 c6
            replace hf := hf.keep0 c6
            replace hch := hch.then c6
            clear c6 hr6 hq6 hc hv6 hq6z HDI
            go_wp2_with (go_at_call 54; (with_reducible refine (HUI.out _).mono ?_); rintro e w' ⟨rfl, rfl⟩)
            have e1 : IntKind.i64.wrap (fl : Int) = (fl : Int) := by rw [IntKind.wrap_i64]; omega
            have e2 : IntKind.u64.wrap (((L0 - Ai : Nat) : Int) - (fl : Int)) = ((L0 - (Ai + fl) : Nat) : Int) := by rw [IntKind.wrap_u64]; omega
            have e3 : (((L0 - Ai : Nat) : Int) - (fl : Int)) % 18446744073709551616 = ((L0 - (Ai + fl) : Nat) : Int) := by omega
            obtain ⟨x1, HX1⟩ := name_it (L0 - Ai)
            obtain ⟨x2, HX2⟩ := name_it (L0 - (Ai + fl))
            rw [HX1.out, HX2.out] at e2 e3
            rw [HX1.out]
            have HX3 : Hid (x2 = L0 - apS (fun i => N i / D) (i + 1)) := Lib.hid (by rw [HSTEP.out]; exact HX2.out.symm)
            have HT2 : Hid (∀ j, j < i + 1 → Is (upd t i r6 j) (N j % D)) := Lib.hid fun j hj => by
              by_cases e : j = i
              · subst e; rw [upd_at]; exact HR6.out
              · rw [upd_ne _ _ e]; exact HTT.out j (by omega)
            have m0 := hA.cell i hlt
            have m1 := hR.cell i hlt
            have m2 := hO.cell i hlt
            have m3 := hA.frz i hlt
            have m4 := hR.frz i hlt
            have m5 := hO.frz i hlt
            have m6 := box.c0
            have c8 : Chg [] w6 w6.drew := (Chg.refl _ _).drew
            replace hA := hA.keep0 c8
            replace hR := hR.keep0 c8
            replace hO := hO.keep0 c8
            replace hf := hf.keep0 c8
            replace box := box.keep0 c8
            replace hch := hch.then c8
            have k0 := hA.cell i hlt
            have k1 := hR.cell i hlt
            have k2 := hO.cell i hlt
            have k3 := hA.frz i hlt
            have k4 := hR.frz i hlt
            have k5 := hO.frz i hlt
            have k6 := box.c0
            clear c8
            have ww : World := w6
            clear ww
            have sA := ((hA.store hlt (.int .i64 (fl : Int)) (fun j => .int .i64 (((if j < i + 1 then N j / D else 0) : Nat) : Int)) (by rw [if_pos (by omega), HFL.out]) (fun j hj e => by
              by_cases h : j < i
              · rw [if_pos h, if_pos (by omega)]
              · rw [if_neg h, if_neg (by omega)])).sto (show gA ≠ gR by omega) i (.string r6)).sto (show gA ≠ gO by omega) i (.int .i64 (i : Int))
            have sR := (((hR.sto (show gR ≠ gA by omega) i (.int .i64 (fl : Int))).store hlt (.string r6) (fun j => .string (upd t i r6 j)) (by rw [upd_at]) (fun j hj e => by rw [upd_ne _ _ e]))).sto (show gR ≠ gO by omega) i (.int .i64 (i : Int))
            have sO := ((hO.sto (show gO ≠ gA by omega) i (.int .i64 (fl : Int))).sto (show gO ≠ gR by omega) i (.string r6)).store hlt (.int .i64 (i : Int)) (fun j => .int .i64 (((if j < i + 1 then j else 0) : Nat) : Int)) (by rw [if_pos (by omega)]) (fun j hj e => by
              by_cases h : j < i
              · rw [if_pos h, if_pos (by omega)]
              · rw [if_neg h, if_neg (by omega)])
            have sf := ((hf.sto (show g ≠ gA by omega) i (.int .i64 (fl : Int))).sto (show g ≠ gR by omega) i (.string r6)).sto (show g ≠ gO by omega) i (.int .i64 (i : Int))
            have sch := ((hch.setCell (p := ⟨gA, i, none⟩) (.inr (show w.heap.size ≤ gA by omega)) (.int .i64 (fl : Int))).setCell (p := ⟨gR, i, none⟩) (.inr (show w.heap.size ≤ gR by omega)) (.string r6)).setCell (p := ⟨gO, i, none⟩) (.inr (show w.heap.size ≤ gO by omega)) (.int .i64 (i : Int))
            have sbox : C1 (((w6.drew.setCell ⟨gA, i, none⟩ (.int .i64 (fl : Int))).setCell ⟨gR, i, none⟩ (.string r6)).setCell ⟨gO, i, none⟩ (.int .i64 (i : Int))) gX 0 (.slice (some ⟨gR, 0, none⟩) n n) :=
              box.keep ((((Chg.refl [gA, gR, gO] _).setCell (p := ⟨gA, i, none⟩) (.inl (by simp)) _).setCell (p := ⟨gR, i, none⟩) (.inl (by simp)) _).setCell (p := ⟨gO, i, none⟩) (.inl (by simp)) _) (by simp; omega)
            clear hA hR hO hf box hch
            go_region
            all_goals
              go_wp2_with fail
              go_roundw
              case rel => exact ⟨i + 1, upd t i r6, by omega, by go_num, by rw [HX3.out], HT2.out, sA, sR, sbox, sO, sf, sch⟩
              case measure => simp [intOf]; omega
          · obtain rfl : i = n := by omega
            have hcmp : Cmp wr gX gR i k t (fun j => N j % D) := ⟨box, hR, fun j hj => ⟨HTT.out j hj, Is_size (HTT.out j hj) _ (Nat.lt_of_le_of_lt (Nat.mod_le _ _) (HB.out j hj))⟩, by omega⟩
            have hO2 : Fb wr gO i (fun a => .int .i64 ((a : Nat) : Int)) := hO.congr fun j hj => by rw [if_pos hj]
            have hA2 : Fb wr gA i (fun j => .int .i64 ((N j / D : Nat) : Int)) := hA.congr fun j hj => by rw [if_pos hj]
            have HSO := Lib.hid (sortStable_any i gX gR gO i k t _ wr hm hcmp (by omega) (by omega) hO2)
            rw [← HLF.out]
            have hll := HF1.out.left
            have HRAI := Lib.hid (fun j (h : j < i) => HF1.out.raise h)
            obtain ⟨lf, HLFT⟩ := name_it (lftA N D i)
            rw [HLFT.out] at hll HRAI ⊢
            clear hA hR box hO hf hO2 hcmp
            have l1 : (0 : Int) ≤ (lf : Int) := by omega
            have l2 : (lf : Int) ≤ (i : Int) := by omega
            go_wp2_with fail
            refine HSO.out.mono ?_
            rintro e w7 ⟨rfl, o, hO, ho, c7⟩
            have HO := Lib.hid ho
            replace hA2 := hA2.keep c7 (by simp; omega)
            replace hch := hch.trans c7 (fun x hx => .inr (by simp at hx; omega))
            clear c7 ho HSO
            go_wp2_with fail
            have hA3 : Fb w7 gA i (fun j => .int .i64 ((N j / D + (if apR (fun i => N i % D) i j < 0 then 1 else 0) : Nat) : Int)) := hA2.congr fun j _ => by rw [if_neg (Nat.not_lt_zero _), Nat.add_zero]
            clear hA2
            go_loopw [98] (fun tv wr => ∃ c : Nat, c ≤ lf ∧ tv = .int .i64 c ∧ Fb wr gA i (fun j => .int .i64 ((N j / D + (if apR (fun i => N i % D) i j < c then 1 else 0) : Nat) : Int)) ∧ Fb wr gO i (fun a => .int .i64 ((o a : Nat) : Int)) ∧ Chg [] w wr) (fun tv _ => lf - (intOf tv).toNat)
            case atStart => exact ⟨0, Nat.zero_le _, rfl, hA3, hO, hch⟩
            case round =>
              clear hA3 hO hch
              obtain ⟨c, hc, rfl, hA, hO, hch⟩ := hrel
              by_cases hlt : c < lf
              · have hcn : c < i := by omega
                have hxn : o c < i := HO.out.lt c hcn
                have hrk := HO.out.rank hcn
                have m0 : wr.cell? ⟨gO, c, none⟩ = some (.int .i64 ((o c : Nat) : Int)) := hO.cell c hcn
                have m1 : wr.cell? ⟨gA, o c, none⟩ = some (.int .i64 ((N (o c) / D : Nat) : Int)) := by
                  have h := hA.cell (o c) hxn
                  simp only [hrk, Nat.lt_irrefl, if_false, Nat.add_zero] at h
                  exact h
                have m2 := hA.frz (o c) hxn
                have hbd := HRAI.out (o c) hxn
                have HNF : Hid (∀ j, j < i → (N j / D + if apR (fun i => N i % D) i j < c + 1 then 1 else 0) = if j = o c then N (o c) / D + 1 else N j / D + if apR (fun i => N i % D) i j < c then 1 else 0) := Lib.hid fun j hj => by
                  have h := ap_raise (r := fun i => N i % D) hxn hj hrk
                  by_cases e : j = o c
                  · subst e; rw [if_pos rfl, if_pos (by rw [hrk]; omega)]
                  · rw [if_neg e]; rw [if_neg e] at h; rw [h]; simp only [Nat.add_zero]
                obtain ⟨x, HX⟩ := name_it (o c)
                rw [HX.out] at m0 m1 m2 hbd HNF hxn
                obtain ⟨v, HV⟩ := name_it (N x / D)
                rw [HV.out] at m1 hbd HNF
                have i1 : (0 : Int) ≤ (x : Int) := by omega
                have i2 : (x : Int) < (i : Int) := by omega
                have i3 : (0 : Int) ≤ (c : Int) := by omega
                have i4 : (c : Int) < (lf : Int) := by omega
                have e1 : IntKind.i64.wrap ((v : Int) + 1) = (v : Int) + 1 := by rw [IntKind.wrap_i64]; omega
                have sA : Fb (wr.setCell ⟨gA, x, none⟩ (.int .i64 ((v : Int) + 1))) gA i (fun j => .int .i64 ((N j / D + (if apR (fun i => N i % D) i j < c + 1 then 1 else 0) : Nat) : Int)) :=
                  hA.store hxn _ _ (by rw [HNF.out x hxn, if_pos rfl]; congr 1) (fun j hj e => by rw [HNF.out j hj, if_neg e])
                have sO := hO.sto (show gO ≠ gA by omega) x (.int .i64 ((v : Int) + 1))
                have sch := hch.setCell (p := ⟨gA, x, none⟩) (.inr (show w.heap.size ≤ gA by omega)) (.int .i64 ((v : Int) + 1))
                clear hA hO hch hrk
                go_wp2_with fail
                go_roundw
                case rel => exact ⟨c + 1, by omega, by go_num, sA, sO, sch⟩
                case measure => simp [intOf]; omega
              · obtain rfl : c = lf := by omega
                have hA4 : Fb wr gA i (fun j => .int .i64 ((resA N D i j : Nat) : Int)) := hA.congr fun j _ => by unfold resA; rw [HLFT.out]
                clear hA hO
                go_wp2_with fail
                go_ret2
                exact ⟨fun h => absurd h (by decide), fun _ => ⟨gA, rfl, by omega, hA4⟩, hch⟩
      · have hof : ok = false := by rw [HOK.out, decide_eq_false hmx, Bool.and_false]
        subst hof
        have d1 : decide ((9223372036854775807 : Int) < (L0 : Int)) = true := decide_eq_true (by omega)
        have d1n : decide (9223372036854775807 < L0) = true := decide_eq_true (by omega)
        clear hbig hvq hmx
        go_wp2_with (go_at_call 54; (with_reducible refine (HU.out _).mono ?_); rintro e w' ⟨rfl, rfl⟩)
        go_ret2
        exact ⟨fun _ => rfl, fun h => absurd h (by decide), hch⟩
end Go.Proofs.Ytdlejpaaoinokaa
