/-
  Interest: the rate of a day; the program's Rate, the reference's rate, InterestRate.
-/
import Derived.Test.YtcfejphpflafiaaIC
namespace Go.Proofs.Ytcfejphpflafiaa
open Go.RowKit Nd

theorem slQ_drop {l : List St} {i : Nat} (h : i < l.length) : (slQ l).drop i = ((l.getD i s0).fr, ratOf (l.getD i s0).rt) :: (slQ l).drop (i + 1) := by
  rw [List.drop_eq_getElem_cons (by rw [slQ_length]; exact h)]
  congr 1
  have := slQ_getD l i
  rw [List.getD_eq_getElem?_getD, List.getElem?_eq_getElem (by rw [slQ_length]; exact h), Option.getD_some] at this
  exact this
theorem slQ_end {l : List St} {i : Nat} (h : l.length ≤ i) : (slQ l).drop i = [] := List.drop_eq_nil_of_le (by rw [slQ_length]; exact h)
theorem Val_zeroK {k : Nat} (h : 1 ≤ k) : Val q0 0 k := Val_zero.mono h
theorem box2z (w : World) : Blk3 ((w.alloc (.cells #[.bool false, .string ⟨#[]⟩, .string ⟨#[]⟩] 29)).alloc (.cells #[.bool false, .string ⟨#[]⟩, .string ⟨#[]⟩] 29)) w.heap.size (.bool false) (.string ⟨#[]⟩) (.string ⟨#[]⟩) ∧ Blk3 ((w.alloc (.cells #[.bool false, .string ⟨#[]⟩, .string ⟨#[]⟩] 29)).alloc (.cells #[.bool false, .string ⟨#[]⟩, .string ⟨#[]⟩] 29)) (w.heap.size + 1) (.bool false) (.string ⟨#[]⟩) (.string ⟨#[]⟩) ∧ Chg [] w ((w.alloc (.cells #[.bool false, .string ⟨#[]⟩, .string ⟨#[]⟩] 29)).alloc (.cells #[.bool false, .string ⟨#[]⟩, .string ⟨#[]⟩] 29)) := by
  have b2 := Blk3.alloc (w.alloc (.cells #[.bool false, .string ⟨#[]⟩, .string ⟨#[]⟩] 29)) (.bool false) (.string ⟨#[]⟩) (.string ⟨#[]⟩) 29
  rw [World.size_alloc] at b2
  exact ⟨(Blk3.alloc w (.bool false) (.string ⟨#[]⟩) (.string ⟨#[]⟩) 29).keep ((Chg.refl [] _).alloc (.cells #[.bool false, .string ⟨#[]⟩, .string ⟨#[]⟩] 29)) (by simp), b2, ((Chg.refl _ _).alloc _).alloc _⟩

set_option maxRecDepth 20000 in
set_option maxHeartbeats 2000000 in
theorem rrate_any (l : List St) (d : Int) (n k : Nat) (A : Option Addr) (cap : Nat) (w : World) (hn : l.length = n) (hm : n ≤ 1000000000) (hf : Fits l k) (hx : Sds w A l) :
    Calls Try.prog 37 #[.slice A n cap, .int .i64 d] w fun e w' => ∃ z, e = .returned (.agg #[.bool z.neg, .string z.num, .string z.den]) ∧ Val z (rq d 0 (slQ l)) k ∧ Chg [] w w' := by
  have HLOW : Hid (0 < l.length → ∃ g o, A = some ⟨g, o, none⟩ ∧ g < w.heap.size) := Lib.hid hx.form
  obtain ⟨b1, b2, hch⟩ := box2z w
  replace hx := hx.keep0 hch
  obtain ⟨r, HR⟩ := name_it (rq d 0 (slQ l))
  have HQ0 : Hid (rq d 0 ((slQ l).drop 0) = r) := Lib.hid (by rw [List.drop_zero]; exact HR.out)
  rw [HR.out]
  have HN := Lib.hid hn
  have HF := Lib.hid hf
  clear hn hf HR
  go_enter Try.func37, Try.ntmps37
  have b1c0 := b1.c0
  have b1c1 := b1.c1
  have b1c2 := b1.c2
  have b1f0 := b1.f0
  have b1f1 := b1.f1
  have b1f2 := b1.f2
  have b1l := b1.lt
  have b2c0 := b2.c0
  have b2c1 := b2.c1
  have b2c2 := b2.c2
  have b2f0 := b2.f0
  have b2f1 := b2.f1
  have b2f2 := b2.f2
  have b2l := b2.lt
  go_wp2_with fail
  clear b1c0 b1c1 b1c2 b1f0 b1f1 b1f2 b1l b2c0 b2c1 b2c2 b2f0 b2f1 b2f2 b2l
  go_loopw [6] (fun iv wr => ∃ (i : Nat) (z : Q3) (c : Rat), i ≤ n ∧ iv = .int .i64 i ∧ Val z c k ∧ rq d c ((slQ l).drop i) = r ∧ Blk3 wr w.heap.size (.bool false) (.string ⟨#[]⟩) (.string ⟨#[]⟩) ∧ Blk3 wr (w.heap.size + 1) (.bool z.neg) (.string z.num) (.string z.den) ∧ Sds wr A l ∧ Chg [] w wr) (fun iv _ => n - (intOf iv).toNat)
  case atStart => exact ⟨0, q0, 0, Nat.zero_le _, rfl, Val_zeroK HF.out.pos, HQ0.out, b1, b2, hx, hch⟩
  case round =>
    clear hx hch b1 b2
    obtain ⟨i, z, c, hi, rfl, hz, hq, b1, b2, hx, hch⟩ := hrel
    have HZ := Lib.hid hz
    have HQ := Lib.hid hq
    clear hz hq
    have hfin : (¬ i < n) ∨ (i < n ∧ d < (l.getD i s0).fr) → Hid (c = r) := by
      intro h
      refine Lib.hid ?_
      rw [← HQ.out]
      rcases h with h | ⟨h, h2⟩
      · rw [slQ_end (by rw [HN.out]; omega)]; rfl
      · rw [slQ_drop (by rw [HN.out]; exact h)]
        simp only [rq]; rw [if_neg (by omega)]
    have HFIN := Lib.hid hfin
    clear hfin
    by_cases hlt : i < n
    · obtain ⟨g, o, rfl, hgl⟩ := HLOW.out (by rw [HN.out]; omega)
      have hc := hx.at_ (j := i) (by rw [HN.out]; exact hlt)
      have hnum := Lib.hid (HF.out.num (j := i) (by rw [HN.out]; exact hlt))
      have hstep := Lib.hid (slQ_drop (l := l) (i := i) (by rw [HN.out]; exact hlt))
      obtain ⟨s, HS⟩ := name_it (l.getD i s0)
      rw [HS.out] at hc hnum hstep HFIN
      have hca := hc.a
      have hcb := hc.b
      have hcc := hc.c
      have hcd := hc.d
      have i1 : (0 : Int) ≤ (i : Int) := by omega
      have i2 : (i : Int) < (n : Int) := by omega
      have hca : wr.cell? ⟨g, o + i * 4, none⟩ = some (.int .i64 s.fr) := hca
      have HX := Lib.hid hx
      clear hx
      cases hle : decide (s.fr ≤ d) with
      | true =>
        have hq2 : Hid (rq d (ratOf s.rt) ((slQ l).drop (i + 1)) = r) := Lib.hid (by
          have := HQ.out
          rw [hstep.out] at this
          simp only [rq] at this
          rwa [if_pos (of_decide_eq_true hle)] at this)
        clear HFIN
        go_wp2_with fail
        refine (rFixN s.rt _ k _ hnum.out (by have := HF.out.le; omega)).mono ?_
        rintro e w1 ⟨z2, rfl, hz2, c1⟩
        have HZ2 := Lib.hid hz2
        replace hch := hch.then c1
        replace b1 := b1.keep c1 (by simp)
        replace b2 := b2.keep c1 (by simp)
        have HX1 := Lib.hid (HX.out.keep0 c1)
        clear hz2 c1 hca hcb hcc hcd hc hle
        have S := b2.store (.bool z2.neg) (.string z2.num) (.string z2.den)
        have b1s := b1.st2 (show w.heap.size ≠ w.heap.size + 1 by omega) (.bool z2.neg) (.string z2.num) (.string z2.den)
        have HXS := Lib.hid (HX1.out.st3 (show g ≠ w.heap.size + 1 by omega) (.bool z2.neg) (.string z2.num) (.string z2.den))
        have hchS := hch.store3 (.inr (show w.heap.size ≤ w.heap.size + 1 by omega)) (.bool z2.neg) (.string z2.num) (.string z2.den)
        have b2c0 := b2.c0
        have b2c1 := b2.c1
        have b2c2 := b2.c2
        have b2f0 := b2.f0
        have b2f1 := b2.f1
        have b2f2 := b2.f2
        have b2l := b2.lt
        clear b1
        go_wp2_with fail
        clear b2c0 b2c1 b2c2 b2f0 b2f1 b2f2 b2l
        go_roundw
        case rel => exact ⟨i + 1, z2, ratOf s.rt, by omega, by go_num, HZ2.out, hq2.out, b1s, S, HXS.out, hchS⟩
        case measure => simp [intOf]; omega
      | false =>
        have hcr := HFIN.out (.inr ⟨hlt, by have := of_decide_eq_false hle; omega⟩)
        have b1c0 := b1.c0
        have b1c1 := b1.c1
        have b1c2 := b1.c2
        have b1f0 := b1.f0
        have b1f1 := b1.f1
        have b1f2 := b1.f2
        have b1l := b1.lt
        have b2c0 := b2.c0
        have b2c1 := b2.c1
        have b2c2 := b2.c2
        have b2f0 := b2.f0
        have b2f1 := b2.f1
        have b2f2 := b2.f2
        have b2l := b2.lt
        go_wp2_with fail
        clear hca
        have S := b1.store (.bool z.neg) (.string z.num) (.string z.den)
        exact bodyPost_ret (v := .agg #[.bool z.neg, .string z.num, .string z.den]) (by simp [results, Try.results37, go_sem, S.c0, S.c1, S.c2]) rfl ⟨z, rfl, by rw [← hcr.out]; exact HZ.out, hch.store3 (.inr (Nat.le_refl _)) _ _ _⟩
    · have hcr := HFIN.out (.inl hlt)
      have b1c0 := b1.c0
      have b1c1 := b1.c1
      have b1c2 := b1.c2
      have b1f0 := b1.f0
      have b1f1 := b1.f1
      have b1f2 := b1.f2
      have b1l := b1.lt
      have b2c0 := b2.c0
      have b2c1 := b2.c1
      have b2c2 := b2.c2
      have b2f0 := b2.f0
      have b2f1 := b2.f1
      have b2f2 := b2.f2
      have b2l := b2.lt
      go_wp2_with fail
      have S := b1.store (.bool z.neg) (.string z.num) (.string z.den)
      exact bodyPost_ret (v := .agg #[.bool z.neg, .string z.num, .string z.den]) (by simp [results, Try.results37, go_sem, S.c0, S.c1, S.c2]) rfl ⟨z, rfl, by rw [← hcr.out]; exact HZ.out, hch.store3 (.inr (Nat.le_refl _)) _ _ _⟩

/-- The error of Rate. -/
def rateE (L : Stp) (d : Int) : Int := if chk L = 0 then (if isd d = false then 1 else 0) else chk L
/-- The rate of Rate. -/
def rateV (L : Stp) (d : Int) : Rat := if rateE L d = 0 then rq d 0 L else 0
theorem rate_ok {L : Stp} {d : Int} (h : chk L = 0) (h2 : isd d = true) : rateE L d = 0 ∧ rateV L d = rq d 0 L := by
  have : rateE L d = 0 := by unfold rateE; rw [if_pos h, h2]; rfl
  exact ⟨this, by unfold rateV; rw [if_pos this]⟩
theorem rate_day {L : Stp} {d : Int} (h : chk L = 0) (h2 : isd d = false) : rateE L d = 1 ∧ rateV L d = 0 := by
  have : rateE L d = 1 := by unfold rateE; rw [if_pos h, h2]; rfl
  exact ⟨this, by unfold rateV; rw [this]; rfl⟩
theorem rate_chk {L : Stp} {d : Int} (h : chk L ≠ 0) : rateE L d = chk L ∧ rateV L d = 0 := by
  have : rateE L d = chk L := by unfold rateE; rw [if_neg h]
  exact ⟨this, by unfold rateV; rw [this, if_neg h]⟩
theorem Num_ok {x : Q3} {c : Rat} {k : Nat} (h : Num x c k) (hk : okB x = true) : Val x c k := by
  obtain rfl := h.rat
  exact ⟨ok_enc hk, h.bd⟩

set_option maxRecDepth 20000 in
set_option maxHeartbeats 2000000 in
theorem rate_any (l : List St) (d : Int) (n k : Nat) (A : Option Addr) (cap : Nat) (w : World) (hn : l.length = n) (hm : n ≤ 1000000000) (hf : Fits l k) (hx : Sds w A l) :
    Calls Try.prog 16 #[.slice A n cap, .int .i64 d] w fun e w' => ∃ z, e = .returned (.tuple #[.agg #[.bool z.neg, .string z.num, .string z.den], .int .i64 (rateE (slQ l) d)]) ∧ Val z (rateV (slQ l) d) k ∧ Chg [] w w' := by
  have HLOW : Hid (0 < l.length → ∃ g o, A = some ⟨g, o, none⟩ ∧ g < w.heap.size) := Lib.hid hx.form
  have b1 := Blk3.alloc w (.bool false) (.string ⟨#[]⟩) (.string ⟨#[]⟩) 29
  have hch : Chg [] w (w.alloc (.cells #[.bool false, .string ⟨#[]⟩, .string ⟨#[]⟩] 29)) := (Chg.refl _ _).alloc _
  have hx1 := hx.keep0 hch
  have HCK := Lib.hid (fun w h => check_any l n k A cap w hn hm hf h)
  obtain ⟨c, HC⟩ := name_it (chk (slQ l))
  rw [HC.out] at HCK
  obtain ⟨re, HRE⟩ := name_it (rateE (slQ l) d)
  obtain ⟨rv, HRV⟩ := name_it (rateV (slQ l) d)
  have HN := Lib.hid hn
  have HF := Lib.hid hf
  rw [HRE.out, HRV.out]
  clear hn hf hx
  by_cases hc0 : c = 0
  · subst hc0
    cases hd : isd d with
    | false =>
      obtain ⟨h1, h2⟩ := rate_day HC.out hd
      rw [HRE.out] at h1
      rw [HRV.out] at h2
      subst h1 h2
      have HD := Lib.hid hd
      clear hd HRE HRV HC
      go_enter Try.func16, Try.ntmps16
      go_wp2_with (first
        | (go_at_call 14; (with_reducible refine (HCK.out _ hx1).mono ?_); rintro e w1 ⟨rfl, c1⟩; replace b1 := b1.keep c1 (by simp); replace hch := hch.then c1; clear c1; have b1c0 := b1.c0; have b1c1 := b1.c1; have b1c2 := b1.c2; have b1f0 := b1.f0; have b1f1 := b1.f1; have b1f2 := b1.f2; have b1l := b1.lt)
        | (go_at_call 33; (with_reducible refine (isDay_any d _ false HD.out).mono ?_); rintro e w' ⟨rfl, hw⟩; obtain rfl := hw.symm; clear hw))
      have S := b1.store (.bool false) (.string ⟨#[]⟩) (.string ⟨#[]⟩)
      exact bodyPost_ret (v := .tuple #[.agg #[.bool false, .string ⟨#[]⟩, .string ⟨#[]⟩], .int .i64 1]) (by simp [results, Try.results16, go_sem, S.c0, S.c1, S.c2]) rfl ⟨q0, rfl, Val_zeroK HF.out.pos, hch.store3 (.inr (Nat.le_refl _)) _ _ _⟩
    | true =>
      obtain ⟨h1, h2⟩ := rate_ok HC.out hd
      rw [HRE.out] at h1
      rw [HRV.out] at h2
      subst h1
      have HQ0 : Hid (rq d 0 ((slQ l).drop 0) = rv) := Lib.hid (by rw [List.drop_zero]; exact h2.symm)
      have HD := Lib.hid hd
      clear hd HRE HRV HC h2
      go_enter Try.func16, Try.ntmps16
      go_wp2_with (first
        | (go_at_call 14; (with_reducible refine (HCK.out _ hx1).mono ?_); rintro e w1 ⟨rfl, c1⟩; replace b1 := b1.keep c1 (by simp); have hx2 := hx1.keep0 c1; replace hch := hch.then c1; clear c1; have b7 := Blk3.alloc w1 (.bool false) (.string ⟨#[]⟩) (.string ⟨#[]⟩) 29; have hsz : w.heap.size < w1.heap.size := b1.lt)
        | (go_at_call 33; (with_reducible refine (isDay_any d _ true HD.out).mono ?_); rintro e w' ⟨rfl, hw⟩; obtain rfl := hw.symm; clear hw))
      have c9 : Chg [] w1 (w1.alloc (.cells #[.bool false, .string ⟨#[]⟩, .string ⟨#[]⟩] 29)) := (Chg.refl _ _).alloc _
      replace b1 := b1.keep c9 (by simp)
      replace hx2 := hx2.keep0 c9
      replace hch := hch.then c9
      clear c9 hx1 HCK
      go_loopw [23] (fun iv wr => ∃ (i : Nat) (x : Q3) (c : Rat), i ≤ n ∧ iv = .int .i64 i ∧ Num x c k ∧ rq d c ((slQ l).drop i) = rv ∧ Blk3 wr w.heap.size (.bool false) (.string ⟨#[]⟩) (.string ⟨#[]⟩) ∧ Blk3 wr w1.heap.size (.bool x.neg) (.string x.num) (.string x.den) ∧ Sds wr A l ∧ Chg [] w wr) (fun iv _ => n - (intOf iv).toNat)
      case atStart => exact ⟨0, q0, 0, Nat.zero_le _, rfl, (Val_zeroK HF.out.pos).num, HQ0.out, b1, b7, hx2, hch⟩
      case round =>
        clear hx2 hch b1 b7
        obtain ⟨i, x, c, hi, rfl, hnm, hq, b1, b7, hx, hch⟩ := hrel
        have HNUM := Lib.hid hnm
        have HQ := Lib.hid hq
        have HSZ1 : Hid (x.num.size ≤ 1099511627776) := Lib.hid (by have := hnm.n1; have := HF.out.le; omega)
        have HSZ2 : Hid (x.den.size ≤ 1099511627776) := Lib.hid (by have := hnm.n2; have := HF.out.le; omega)
        clear hnm hq
        by_cases hlt : i < n
        · obtain ⟨g, o, rfl, hgl⟩ := HLOW.out (by rw [HN.out]; omega)
          have hc := hx.at_ (j := i) (by rw [HN.out]; exact hlt)
          have hnum := Lib.hid (HF.out.num (j := i) (by rw [HN.out]; exact hlt))
          have hstep := Lib.hid (slQ_drop (l := l) (i := i) (by rw [HN.out]; exact hlt))
          obtain ⟨s, HS⟩ := name_it (l.getD i s0)
          rw [HS.out] at hc hnum hstep
          have hca := hc.a
          have hcb := hc.b
          have hcc := hc.c
          have hcd := hc.d
          have c4 : Chg [] wr (wr.alloc (.cells #[.int .i64 s.fr, .bool s.rt.neg, .string s.rt.num, .string s.rt.den] 49)) := (Chg.refl _ _).alloc _
          have b4 := Blk4.alloc wr (.int .i64 s.fr) (.bool s.rt.neg) (.string s.rt.num) (.string s.rt.den) 49
          have hne4 : w1.heap.size ≠ wr.heap.size := by have := b7.lt; omega
          replace b1 := b1.keep c4 (by simp)
          replace b7 := b7.keep c4 (by simp)
          have HX1 := Lib.hid (hx.keep0 c4)
          replace hch := hch.then c4
          clear hx hc c4
          cases hle : decide (d < s.fr) with
          | true =>
            have HFIN : Hid (c = rv) := Lib.hid (by
              rw [← HQ.out, hstep.out]
              simp only [rq]; rw [if_neg (by have := of_decide_eq_true hle; omega)])
            cases hok : okB x with
            | false =>
              have h0 : Hid (Val q0 rv k) := Lib.hid (by
                have h5 := HNUM.out.rat
                rw [bad_rat hok] at h5
                rw [← HFIN.out, ← h5]; exact Val_zeroK HF.out.pos)
              have b7c0 := b7.c0
              have b7c1 := b7.c1
              have b7c2 := b7.c2
              have b7f0 := b7.f0
              have b7f1 := b7.f1
              have b7f2 := b7.f2
              have b7l := b7.lt
              go_wp2_with (go_at_call 36; (with_reducible refine (Valid_any x _ HSZ1.out HSZ2.out).mono ?_); rintro e w2 ⟨rfl, c2⟩; clear b7c0 b7c1 b7c2 b7f0 b7f1 b7f2 b7l; replace b1 := b1.keep c2 (by simp); replace hch := hch.then c2; clear c2; have b1c0 := b1.c0; have b1c1 := b1.c1; have b1c2 := b1.c2; have b1f0 := b1.f0; have b1f1 := b1.f1; have b1f2 := b1.f2; have b1l := b1.lt)
              have S := b1.store (.bool false) (.string ⟨#[]⟩) (.string ⟨#[]⟩)
              exact bodyPost_ret (v := .tuple #[.agg #[.bool false, .string ⟨#[]⟩, .string ⟨#[]⟩], .int .i64 0]) (by simp [results, Try.results16, go_sem, S.c0, S.c1, S.c2]) rfl ⟨q0, rfl, h0.out, hch.store3 (.inr (Nat.le_refl _)) _ _ _⟩
            | true =>
              have h0 : Hid (Val x rv k) := Lib.hid (by rw [← HFIN.out]; exact Num_ok HNUM.out hok)
              have hne : w.heap.size ≠ w1.heap.size := by omega
              have b7c0 := b7.c0
              have b7c1 := b7.c1
              have b7c2 := b7.c2
              have b7f0 := b7.f0
              have b7f1 := b7.f1
              have b7f2 := b7.f2
              have b7l := b7.lt
              go_wp2_with (go_at_call 36; (with_reducible refine (Valid_any x _ HSZ1.out HSZ2.out).mono ?_); rintro e w2 ⟨rfl, c2⟩; clear b7c0 b7c1 b7c2 b7f0 b7f1 b7f2 b7l; replace b1 := b1.keep c2 (by simp); replace b7 := b7.keep c2 (by simp); replace hch := hch.then c2; clear c2; have b1c0 := b1.c0; have b1c1 := b1.c1; have b1c2 := b1.c2; have b1f0 := b1.f0; have b1f1 := b1.f1; have b1f2 := b1.f2; have b1l := b1.lt; have b7c0 := b7.c0; have b7c1 := b7.c1; have b7c2 := b7.c2; have b7f0 := b7.f0; have b7f1 := b7.f1; have b7f2 := b7.f2; have b7l := b7.lt)
              have S := b1.store (.bool x.neg) (.string x.num) (.string x.den)
              exact bodyPost_ret (v := .tuple #[.agg #[.bool x.neg, .string x.num, .string x.den], .int .i64 0]) (by simp [results, Try.results16, go_sem, S.c0, S.c1, S.c2]) rfl ⟨x, rfl, h0.out, hch.store3 (.inr (Nat.le_refl _)) _ _ _⟩
          | false =>
            have hq2 : Hid (rq d (ratOf s.rt) ((slQ l).drop (i + 1)) = rv) := Lib.hid (by
              have := HQ.out
              rw [hstep.out] at this
              simp only [rq] at this
              rwa [if_pos (by have := of_decide_eq_false hle; omega)] at this)
            have S7 := b7.store (.bool s.rt.neg) (.string s.rt.num) (.string s.rt.den)
            have b1s := b1.st2 (show w.heap.size ≠ w1.heap.size by omega) (.bool s.rt.neg) (.string s.rt.num) (.string s.rt.den)
            have HXS := Lib.hid (HX1.out.st3 (show g ≠ w1.heap.size by omega) (.bool s.rt.neg) (.string s.rt.num) (.string s.rt.den))
            have hchS := hch.store3 (.inr (show w.heap.size ≤ w1.heap.size by omega)) (.bool s.rt.neg) (.string s.rt.num) (.string s.rt.den)
            have b7c0 := b7.c0
            have b7c1 := b7.c1
            have b7c2 := b7.c2
            have b7f0 := b7.f0
            have b7f1 := b7.f1
            have b7f2 := b7.f2
            have b7l := b7.lt
            go_wp2_with fail
            go_roundw
            case rel => exact ⟨i + 1, s.rt, ratOf s.rt, by omega, by go_num, hnum.out, hq2.out, b1s, S7, HXS.out, hchS⟩
            case measure => simp [intOf]; omega
        · have HFIN : Hid (c = rv) := Lib.hid (by rw [← HQ.out, slQ_end (by rw [HN.out]; omega)]; rfl)
          cases hok : okB x with
          | false =>
            have h0 : Hid (Val q0 rv k) := Lib.hid (by
              have h5 := HNUM.out.rat
              rw [bad_rat hok] at h5
              rw [← HFIN.out, ← h5]; exact Val_zeroK HF.out.pos)
            have b7c0 := b7.c0
            have b7c1 := b7.c1
            have b7c2 := b7.c2
            have b7f0 := b7.f0
            have b7f1 := b7.f1
            have b7f2 := b7.f2
            have b7l := b7.lt
            go_wp2_with (go_at_call 36; (with_reducible refine (Valid_any x _ HSZ1.out HSZ2.out).mono ?_); rintro e w2 ⟨rfl, c2⟩; clear b7c0 b7c1 b7c2 b7f0 b7f1 b7f2 b7l; replace b1 := b1.keep c2 (by simp); replace hch := hch.then c2; clear c2; have b1c0 := b1.c0; have b1c1 := b1.c1; have b1c2 := b1.c2; have b1f0 := b1.f0; have b1f1 := b1.f1; have b1f2 := b1.f2; have b1l := b1.lt)
            have S := b1.store (.bool false) (.string ⟨#[]⟩) (.string ⟨#[]⟩)
            exact bodyPost_ret (v := .tuple #[.agg #[.bool false, .string ⟨#[]⟩, .string ⟨#[]⟩], .int .i64 0]) (by simp [results, Try.results16, go_sem, S.c0, S.c1, S.c2]) rfl ⟨q0, rfl, h0.out, hch.store3 (.inr (Nat.le_refl _)) _ _ _⟩
          | true =>
            have h0 : Hid (Val x rv k) := Lib.hid (by rw [← HFIN.out]; exact Num_ok HNUM.out hok)
            have hne : w.heap.size ≠ w1.heap.size := by omega
            have b7c0 := b7.c0
            have b7c1 := b7.c1
            have b7c2 := b7.c2
            have b7f0 := b7.f0
            have b7f1 := b7.f1
            have b7f2 := b7.f2
            have b7l := b7.lt
            go_wp2_with (go_at_call 36; (with_reducible refine (Valid_any x _ HSZ1.out HSZ2.out).mono ?_); rintro e w2 ⟨rfl, c2⟩; clear b7c0 b7c1 b7c2 b7f0 b7f1 b7f2 b7l; replace b1 := b1.keep c2 (by simp); replace b7 := b7.keep c2 (by simp); replace hch := hch.then c2; clear c2; have b1c0 := b1.c0; have b1c1 := b1.c1; have b1c2 := b1.c2; have b1f0 := b1.f0; have b1f1 := b1.f1; have b1f2 := b1.f2; have b1l := b1.lt; have b7c0 := b7.c0; have b7c1 := b7.c1; have b7c2 := b7.c2; have b7f0 := b7.f0; have b7f1 := b7.f1; have b7f2 := b7.f2; have b7l := b7.lt)
            have S := b1.store (.bool x.neg) (.string x.num) (.string x.den)
            exact bodyPost_ret (v := .tuple #[.agg #[.bool x.neg, .string x.num, .string x.den], .int .i64 0]) (by simp [results, Try.results16, go_sem, S.c0, S.c1, S.c2]) rfl ⟨x, rfl, h0.out, hch.store3 (.inr (Nat.le_refl _)) _ _ _⟩
  · obtain ⟨h1, h2⟩ := rate_chk (d := d) (by rw [HC.out]; exact hc0)
    rw [HRE.out, HC.out] at h1
    rw [HRV.out] at h2
    subst h1 h2
    have d1 : (re == 0) = false := by simp; exact hc0
    clear HRE HRV HC hc0
    go_enter Try.func16, Try.ntmps16
    go_wp2_with (go_at_call 14; (with_reducible refine (HCK.out _ hx1).mono ?_); rintro e w1 ⟨rfl, c1⟩; replace b1 := b1.keep c1 (by simp); replace hch := hch.then c1; clear c1; have b1c0 := b1.c0; have b1c1 := b1.c1; have b1c2 := b1.c2; have b1f0 := b1.f0; have b1f1 := b1.f1; have b1f2 := b1.f2; have b1l := b1.lt)
    have S := b1.store (.bool false) (.string ⟨#[]⟩) (.string ⟨#[]⟩)
    exact bodyPost_ret (v := .tuple #[.agg #[.bool false, .string ⟨#[]⟩, .string ⟨#[]⟩], .int .i64 re]) (by simp [results, Try.results16, go_sem, S.c0, S.c1, S.c2]) rfl ⟨q0, rfl, Val_zeroK HF.out.pos, hch.store3 (.inr (Nat.le_refl _)) _ _ _⟩

set_option maxRecDepth 20000 in
set_option maxHeartbeats 2000000 in
theorem irate_any (l : List St) (d : Int) (n k : Nat) (A : Option Addr) (cap : Nat) (w : World) (hn : l.length = n) (hm : n ≤ 1000000000) (hf : Fits l k) (hx : Sds w A l) :
    Calls Try.prog 17 #[.slice A n cap, .int .i64 d] w fun e w' => ∃ z, e = .returned (.tuple #[.agg #[.bool z.neg, .string z.num, .string z.den], .int .i64 (rateE (slQ l) d)]) ∧ Val z (rateV (slQ l) d) k ∧ Chg [] w w' := by
  have b1 := Blk3.alloc w (.bool false) (.string ⟨#[]⟩) (.string ⟨#[]⟩) 29
  have hch : Chg [] w (w.alloc (.cells #[.bool false, .string ⟨#[]⟩, .string ⟨#[]⟩] 29)) := (Chg.refl _ _).alloc _
  have hx1 := hx.keep0 hch
  have HCK := Lib.hid (fun w h => rcheck_any l n k A cap w hn hm hf h)
  have HRT := Lib.hid (fun w h => rrate_any l d n k A cap w hn hm hf h)
  obtain ⟨c, HC⟩ := name_it (chk (slQ l))
  rw [HC.out] at HCK
  obtain ⟨re, HRE⟩ := name_it (rateE (slQ l) d)
  obtain ⟨rv, HRV⟩ := name_it (rateV (slQ l) d)
  have HF := Lib.hid hf
  rw [HRE.out, HRV.out]
  clear hn hf hx
  by_cases hc0 : c = 0
  · subst hc0
    cases hd : isd d with
    | false =>
      obtain ⟨h1, h2⟩ := rate_day HC.out hd
      rw [HRE.out] at h1
      rw [HRV.out] at h2
      subst h1 h2
      have HD := Lib.hid hd
      clear hd HRE HRV HC HRT
      go_enter Try.func17, Try.ntmps17
      go_wp2_with (first
        | (go_at_call 15; (with_reducible refine (HCK.out _ hx1).mono ?_); rintro e w1 ⟨rfl, c1⟩; replace b1 := b1.keep c1 (by simp); have hx2 := hx1.keep0 c1; replace hch := hch.then c1; clear c1; have b1c0 := b1.c0; have b1c1 := b1.c1; have b1c2 := b1.c2; have b1f0 := b1.f0; have b1f1 := b1.f1; have b1f2 := b1.f2; have b1l := b1.lt)
        | (go_at_call 27; (with_reducible refine (rIsDay_any d _ false HD.out).mono ?_); rintro e w' ⟨rfl, hw⟩; obtain rfl := hw.symm; clear hw))
      have S := b1.store (.bool false) (.string ⟨#[]⟩) (.string ⟨#[]⟩)
      exact bodyPost_ret (v := .tuple #[.agg #[.bool false, .string ⟨#[]⟩, .string ⟨#[]⟩], .int .i64 1]) (by simp [results, Try.results17, go_sem, S.c0, S.c1, S.c2]) rfl ⟨q0, rfl, Val_zeroK HF.out.pos, hch.store3 (.inr (Nat.le_refl _)) _ _ _⟩
    | true =>
      obtain ⟨h1, h2⟩ := rate_ok HC.out hd
      rw [HRE.out] at h1
      rw [HRV.out] at h2
      rw [← h2] at HRT
      subst h1
      have HD := Lib.hid hd
      clear hd HRE HRV HC h2
      go_enter Try.func17, Try.ntmps17
      go_wp2_with (first
        | (go_at_call 15; (with_reducible refine (HCK.out _ hx1).mono ?_); rintro e w1 ⟨rfl, c1⟩; replace b1 := b1.keep c1 (by simp); have hx2 := hx1.keep0 c1; replace hch := hch.then c1; clear c1; have b1c0 := b1.c0; have b1c1 := b1.c1; have b1c2 := b1.c2; have b1f0 := b1.f0; have b1f1 := b1.f1; have b1f2 := b1.f2; have b1l := b1.lt)
        | (go_at_call 27; (with_reducible refine (rIsDay_any d _ true HD.out).mono ?_); rintro e w' ⟨rfl, hw⟩; obtain rfl := hw.symm; clear hw))
      refine (HRT.out _ hx2).mono ?_
      rintro e w2 ⟨z, rfl, hz, c2⟩
      have HZ := Lib.hid hz
      clear b1c0 b1c1 b1c2 b1f0 b1f1 b1f2 b1l hz
      replace b1 := b1.keep c2 (by simp)
      replace hch := hch.then c2
      clear c2
      have b1c0 := b1.c0
      have b1c1 := b1.c1
      have b1c2 := b1.c2
      have b1f0 := b1.f0
      have b1f1 := b1.f1
      have b1f2 := b1.f2
      have b1l := b1.lt
      go_wp2_with fail
      have S := b1.store (.bool z.neg) (.string z.num) (.string z.den)
      exact bodyPost_ret (v := .tuple #[.agg #[.bool z.neg, .string z.num, .string z.den], .int .i64 0]) (by simp [results, Try.results17, go_sem, S.c0, S.c1, S.c2]) rfl ⟨z, rfl, HZ.out, hch.store3 (.inr (Nat.le_refl _)) _ _ _⟩
  · obtain ⟨h1, h2⟩ := rate_chk (d := d) (by rw [HC.out]; exact hc0)
    rw [HRE.out, HC.out] at h1
    rw [HRV.out] at h2
    subst h1 h2
    have d1 : (re == 0) = false := by simp; exact hc0
    clear HRE HRV HC hc0 HRT
    go_enter Try.func17, Try.ntmps17
    go_wp2_with (go_at_call 15; (with_reducible refine (HCK.out _ hx1).mono ?_); rintro e w1 ⟨rfl, c1⟩; replace b1 := b1.keep c1 (by simp); have hx2 := hx1.keep0 c1; replace hch := hch.then c1; clear c1; have b1c0 := b1.c0; have b1c1 := b1.c1; have b1c2 := b1.c2; have b1f0 := b1.f0; have b1f1 := b1.f1; have b1f2 := b1.f2; have b1l := b1.lt)
    have S := b1.store (.bool false) (.string ⟨#[]⟩) (.string ⟨#[]⟩)
    exact bodyPost_ret (v := .tuple #[.agg #[.bool false, .string ⟨#[]⟩, .string ⟨#[]⟩], .int .i64 re]) (by simp [results, Try.results17, go_sem, S.c0, S.c1, S.c2]) rfl ⟨q0, rfl, Val_zeroK HF.out.pos, hch.store3 (.inr (Nat.le_refl _)) _ _ _⟩
end Go.Proofs.Ytcfejphpflafiaa
