/-
  Interest: Compound, Simple.
-/
import Derived.Test.YtcfejphpflafiaaIX4
namespace Go.Proofs.Ytcfejphpflafiaa
open Go.RowKit Nd

/-- What Compound answers. -/
def cmpV (p : Rat) (L : Stp) (f t b n : Int) : Rat := if termsE p L f t b n = 0 then p * (growth L (b : Rat) f t n - 1) else 0
/-- The bound of a factor, of the growth. -/
def KF (k : Nat) : Nat := KP k + 2
def KG (k : Nat) : Nat := 64 * KF k + 4
theorem fE_ok {L : Stp} (h : chk L = 0) : L.length ≤ 64 ∧ ∀ i, i < L.length → eAt L i = 0 := by
  unfold chk at h
  by_cases h1 : 64 < L.length
  · rw [if_pos h1] at h; exact absurd h (by decide)
  · rw [if_neg h1] at h
    exact ⟨by omega, fE_zero h⟩
theorem eAt_ok {L : Stp} {i : Nat} (h : eAt L i = 0) : isd (L.getD i (0, 0)).1 = true ∧ (0 < i → (L.getD (i - 1) (0, 0)).1 < (L.getD i (0, 0)).1) ∧ 0 ≤ (L.getD i (0, 0)).2 := by
  unfold eAt at h
  by_cases h1 : isd (L.getD i (0, 0)).1 = false
  · rw [if_pos h1] at h; exact absurd h (by decide)
  · rw [if_neg h1] at h
    by_cases h2 : 0 < i ∧ (L.getD i (0, 0)).1 ≤ (L.getD (i - 1) (0, 0)).1
    · rw [if_pos h2] at h; exact absurd h (by decide)
    · rw [if_neg h2] at h
      by_cases h3 : sg (L.getD i (0, 0)).2 < 0
      · rw [if_pos h3] at h; exact absurd h (by decide)
      · refine ⟨by simpa using h1, fun h4 => by omega, ?_⟩
        unfold sg at h3
        by_cases h5 : (L.getD i (0, 0)).2 < 0
        · rw [if_pos h5] at h3; exact absurd (by decide) h3
        · exact Rat.not_lt.1 h5
theorem asc_of : ∀ {L : Stp}, (∀ i, 0 < i → i < L.length → (L.getD (i - 1) (0, 0)).1 < (L.getD i (0, 0)).1) → Asc L
  | [], _ => trivial
  | s :: ls, h => by
    have ih : Asc ls := asc_of (fun i h1 h2 => by
      have := h (i + 1) (by omega) (by simp; omega)
      rw [show i + 1 - 1 = (i - 1) + 1 by omega, List.getD_cons_succ, List.getD_cons_succ] at this
      exact this)
    refine ⟨?_, ih⟩
    cases ls with
    | nil => intro x hx; cases hx
    | cons x xs =>
      have h1 : s.1 < x.1 := h 1 (by omega) (by simp)
      intro y hy
      rcases List.mem_cons.1 hy with rfl | hy
      · exact h1
      · have := ih.1 y hy; omega
/-- What a list of steps without an error has. -/
structure Good (L : Stp) : Prop where
  len : L.length ≤ 64
  asc : Asc L
  day : ∀ x ∈ L, 0 ≤ x.1 ∧ x.1 ≤ 1048576
  nn : ∀ x ∈ L, 0 ≤ x.2
theorem chk_good {L : Stp} (h : chk L = 0) : Good L := by
  obtain ⟨h1, h2⟩ := fE_ok h
  have each : ∀ x ∈ L, (0 ≤ x.1 ∧ x.1 ≤ 1048576) ∧ 0 ≤ x.2 := by
    intro x hx
    obtain ⟨i, hi, rfl⟩ := List.getElem_of_mem hx
    obtain ⟨a, _, c⟩ := eAt_ok (h2 i hi)
    rw [List.getD_eq_getElem?_getD, List.getElem?_eq_getElem hi, Option.getD_some] at a c
    exact ⟨isd_yes a, c⟩
  exact ⟨h1, asc_of (fun i h3 h4 => (eAt_ok (h2 i h4)).2.1 h3), fun x hx => (each x hx).1, fun x hx => (each x hx).2⟩
theorem Good.fr {l : List St} (h : Good (slQ l)) : ∀ s ∈ l, 0 ≤ s.fr ∧ s.fr ≤ 1048576 := fun s hs => h.day s.q (List.mem_map.2 ⟨s, hs, rfl⟩)
theorem per_le {m n : Int} (hn : 1 ≤ n) (h : ¬ 64 < perN m n) : m ≤ 64 * n := by
  unfold perN at h
  have h1 := Int.emod_add_mul_ediv m n
  have h2 := Int.emod_lt_of_pos m (show 0 < n by omega)
  have h3 := Int.emod_nonneg m (show n ≠ 0 by omega)
  obtain ⟨q, hq⟩ : ∃ q, m / n = q := ⟨_, rfl⟩
  obtain ⟨r, hr⟩ : ∃ r, m % n = r := ⟨_, rfl⟩
  rw [hq, hr] at h h1
  rw [hr] at h2 h3
  by_cases h0 : 0 < r
  · rw [if_pos h0] at h
    have : n * q ≤ n * 63 := Int.mul_le_mul_of_nonneg_left (by omega) (by omega)
    omega
  · rw [if_neg h0] at h
    have : n * q ≤ n * 64 := Int.mul_le_mul_of_nonneg_left (by omega) (by omega)
    omega
theorem rnd_lt {j : Nat} {n m : Int} (hn : 1 ≤ n) (h1 : (j : Int) * n < m) (h2 : m ≤ 64 * n) : j < 64 := by
  rcases Nat.lt_or_ge j 64 with h | h
  · exact h
  · have : (64 : Int) * n ≤ (j : Int) * n := Int.mul_le_mul_of_nonneg_right (by omega) (by omega)
    omega

theorem Sds.keepL {gs : List Nat} {w w' : World} {A : Option Addr} {xs : List St} {N : Nat} (h : Sds w A xs) (hlow : 0 < xs.length → ∃ g o, A = some ⟨g, o, none⟩ ∧ g < N) (hc : Chg gs w w') (hg : ∀ x ∈ gs, N ≤ x) : Sds w' A xs := by
  intro hl
  obtain ⟨g, o, e, hlt⟩ := hlow hl
  exact h.keep hc (by intro a ha hm; rw [e] at ha; cases ha; have := hg _ hm; dsimp only at this; omega) hl

theorem Blk3.keep0 {w w' : World} {g : Nat} {a b c : Value} (h : Blk3 w g a b c) (hc : Chg [] w w') : Blk3 w' g a b c := h.keep hc (by simp)

set_option maxRecDepth 20000 in
set_option maxHeartbeats 8000000 in
theorem compound_any (x : Q3) (p : Rat) (kp : Nat) (l : List St) (f t b n : Int) (m k : Nat) (A : Option Addr) (cap : Nat) (w : World) (hp : Num x p kp) (hkp : kp ≤ 1000000000) (hn : l.length = m) (hm : m ≤ 1000000000) (hf : Fits l k) (hn2 : n ≤ 9223372036854775807) (hx : Sds w A l) :
    Calls Try.prog 28 #[.agg #[.bool x.neg, .string x.num, .string x.den], .slice A m cap, .int .i64 f, .int .i64 t, .int .i64 b, .int .i64 n] w fun e w' => ∃ z, e = .returned (.tuple #[.agg #[.bool z.neg, .string z.num, .string z.den], .int .i64 (termsE p (slQ l) f t b n)]) ∧ Val z (cmpV p (slQ l) f t b n) (kp + KG k) ∧ Chg [] w w' := by
  have HLOW : Hid (0 < l.length → ∃ g o, A = some ⟨g, o, none⟩ ∧ g < w.heap.size) := Lib.hid hx.form
  have hch : Chg [] w ((w.alloc (.cells #[.bool x.neg, .string x.num, .string x.den] 29)).alloc (.cells #[.bool false, .string ⟨#[]⟩, .string ⟨#[]⟩] 29)) := ((Chg.refl _ _).alloc _).alloc _
  have b6 := (Blk3.alloc w (.bool x.neg) (.string x.num) (.string x.den) 29).keep ((Chg.refl [] _).alloc (.cells #[.bool false, .string ⟨#[]⟩, .string ⟨#[]⟩] 29)) (by simp)
  have b12 := Blk3.alloc (w.alloc (.cells #[.bool x.neg, .string x.num, .string x.den] 29)) (.bool false) (.string ⟨#[]⟩) (.string ⟨#[]⟩) 29
  rw [World.size_alloc] at b12
  have hx1 := hx.keep0 hch
  have HTM := Lib.hid (fun w h => terms_any x p kp l f t b n m k A cap w hp (by omega) hn hm hf hn2 h)
  obtain ⟨r, HR⟩ := name_it (termsE p (slQ l) f t b n)
  obtain ⟨v, HV⟩ := name_it (cmpV p (slQ l) f t b n)
  rw [HR.out] at HTM
  rw [HR.out, HV.out]
  have HN := Lib.hid hn
  have HF := Lib.hid hf
  have HP := Lib.hid hp
  clear hn hf hx hp
  by_cases hr0 : r = 0
  · subst hr0
    have hin : intvE p (slQ l) f t b n = 0 := by
      by_cases h0 : intvE p (slQ l) f t b n = 0
      · exact h0
      · have := HR.out; rw [terms_of h0] at this; exact absurd this h0
    have hper : ¬ 64 < perN (t - f) n := by
      have := HR.out
      rw [terms_at hin] at this
      intro h; rw [if_pos h] at this; exact absurd this (by decide)
    have hv : v = p * (growth (slQ l) (b : Rat) f t n - 1) := by rw [← HV.out]; unfold cmpV; rw [if_pos HR.out]
    obtain ⟨hc, hdf, hdt, hb, hn1, hft, -⟩ := intv_ok hin
    obtain ⟨f1, f2⟩ := isd_yes hdf
    obtain ⟨t1, t2⟩ := isd_yes hdt
    have G := Lib.hid (chk_good hc)
    have hb1 : 1 ≤ b := by omega
    have hb2 : b ≤ 1000 := by omega
    have hm64 : m ≤ 64 := by have := G.out.len; rw [slQ_length, HN.out] at this; exact this
    have H64 := Lib.hid (per_le hn1 hper)
    have HVE := Lib.hid hv
    have HFT := Lib.hid hft
    clear hin hper hv hc hdf hdt hb HR HV hft
    go_enter Try.func28, Try.ntmps28
    have b6c0 := b6.c0
    have b6c1 := b6.c1
    have b6c2 := b6.c2
    have b6f0 := b6.f0
    have b6f1 := b6.f1
    have b6f2 := b6.f2
    have b6l := b6.lt
    go_wp2_with fail
    refine (HTM.out _ hx1).mono ?_
    rintro e w1 ⟨rfl, c1⟩
    clear b6c0 b6c1 b6c2 b6f0 b6f1 b6f2 b6l
    replace b6 := b6.keep c1 (by simp)
    replace b12 := b12.keep c1 (by simp)
    replace hch := hch.then c1
    have hx2 := hx1.keep0 c1
    clear c1 hx1
    go_wp2_with fail
    refine (Int_any 1 _ (by omega) (by omega)).mono ?_
    rintro e w2 ⟨y, rfl, hy, c1⟩
    have HY : Hid (Val y 1 1) := Lib.hid ⟨hy, one_bd⟩
    replace b6 := b6.keep c1 (by simp)
    replace b12 := b12.keep c1 (by simp)
    replace hch := hch.then c1
    have hx3 := hx2.keep0 c1
    clear c1 hx2 hy
    have c2 : Chg [] w2 ((w2.alloc (.cells #[.bool y.neg, .string y.num, .string y.den] 29)).alloc (.cells #[] 29)) := ((Chg.refl _ _).alloc _).alloc _
    have b15 := (Blk3.alloc w2 (.bool y.neg) (.string y.num) (.string y.den) 29).keep ((Chg.refl [] _).alloc (.cells #[] 29)) (by simp)
    have hown := Own3.new (w2.alloc (.cells #[.bool y.neg, .string y.num, .string y.den] 29))
    rw [World.size_alloc] at hown
    have hsz6 : w.heap.size + 1 < w2.heap.size := b12.lt
    replace b6 := b6.keep c2 (by simp)
    replace b12 := b12.keep c2 (by simp)
    replace hch := hch.then c2
    have hx4 := hx3.keep0 c2
    clear c2 hx3
    go_wp2_with fail
    go_loopw [16, 17] (fun fv sv wr => ∃ (j : Nat) (zs : List Q3), sv = .int .i64 (min (f + j * n) t) ∧ Own3 wr fv zs ∧ zs.length = j ∧ j ≤ 64 ∧ (∀ z ∈ zs, Val z (ratOf z) (KF k)) ∧ prodQ zs = gro (slQ l) (b : Rat) f t n j ∧ (∀ x ∈ fv.ownBlock.toList, w2.heap.size < x) ∧ Blk3 wr w.heap.size (.bool x.neg) (.string x.num) (.string x.den) ∧ Blk3 wr (w.heap.size + 1) (.bool false) (.string ⟨#[]⟩) (.string ⟨#[]⟩) ∧ Blk3 wr w2.heap.size (.bool y.neg) (.string y.num) (.string y.den) ∧ Sds wr A l ∧ Chg [] w wr) (fun _ sv _ => (t - intOf sv).toNat)
    case atStart => exact ⟨0, [], by have := HFT.out; simp; omega, hown, rfl, Nat.zero_le _, (fun z h => by cases h), rfl, (by simp [Value.ownBlock]), b6, b12, b15, hx4, hch⟩
    case round =>
      clear hx4 hch b6 b12 b15 hown
      obtain ⟨j, zs, rfl, hown, hzl, hj, hzv, hpr, hpb, b6, b12, b15, hx, hch⟩ := hrel
      obtain ⟨J, HJ⟩ := name_it ((j : Int) * n)
      have HJ2 : Hid (((j : Int) + 1) * n = J + n) := Lib.hid (by rw [Int.add_mul, HJ.out]; omega)
      have HJ0 : 0 ≤ J := by rw [← HJ.out]; exact Int.mul_nonneg (by omega) (by omega)
      have HFAC : Hid (fac (slQ l) (b : Rat) f t n j = 1 + accT (slQ l) (min (f + J) t) (min (f + (J + n)) t) / (b : Rat)) := Lib.hid (by unfold fac; rw [HJ.out, HJ2.out])
      obtain ⟨s, HS⟩ := name_it (min (f + J) t)
      rw [HS.out] at HFAC
      rw [HJ.out, HS.out]
      have s1 : 0 ≤ s := by have := HS.out; omega
      have s2 : s ≤ t := by have := HS.out; omega
      have HZV := Lib.hid hzv
      have HPR := Lib.hid hpr
      have HPB := Lib.hid hpb
      have HZL := Lib.hid hzl
      clear hzv hpr hpb hzl
      by_cases hlt : s < t
      · obtain ⟨e, HE⟩ := name_it (s + min n (t - s))
        have hw64 : wrap64 (s + min n (t - s)) = e := by have := HE.out; unfold wrap64; omega
        have e1 : s < e := by have := HE.out; omega
        have e2 : e ≤ t := by have := HE.out; omega
        have hee : min (f + (J + n)) t = e := by have := HE.out; have := HS.out; omega
        have hj64 : j < 64 := rnd_lt hn1 (by rw [HJ.out]; have := HS.out; omega) H64.out
        have HPU := Lib.hid (fun w h => perUnit_any l s e b m k A cap w HN.out hm64 HF.out G.out.fr s1 (by omega) (by omega) hb1 hb2 h)
        obtain ⟨q, HQ⟩ := name_it (pu s e (slQ l) / (b : Rat))
        rw [HQ.out] at HPU
        have HFQ : Hid (1 + q = fac (slQ l) (b : Rat) f t n j) := Lib.hid (by rw [HFAC.out, hee, ← HQ.out, pu_accT G.out.asc (by omega)])
        have HEE : Hid (min (f + ((j + 1 : Nat) : Int) * n) t = e) := Lib.hid (by rw [show ((j + 1 : Nat) : Int) = (j : Int) + 1 by omega, HJ2.out, hee])
        clear hee HFAC HS HJ2 HJ
        go_wp2_with fail
        rw [HE.out]
        clear hw64 HE
        have c8 : Chg [] wr wr.drew := (Chg.refl _ _).drew
        replace b6 := b6.keep c8 (by simp)
        replace b12 := b12.keep c8 (by simp)
        replace b15 := b15.keep c8 (by simp)
        replace hx := hx.keep0 c8
        replace hown := hown.keep0 c8
        replace hch := hch.then c8
        clear c8
        have HX := Lib.hid hx
        have HOWN := Lib.hid hown
        clear hx hown
        go_region_held3 (fun w' => w'.cell? ⟨w2.heap.size, 0, none⟩ = some (.bool y.neg) ∧ w'.cell? ⟨w2.heap.size, 1, none⟩ = some (.string y.num) ∧ w'.cell? ⟨w2.heap.size, 2, none⟩ = some (.string y.den)) (first
          | exact ⟨b15.c0, b15.c1, b15.c2⟩
          | exact ⟨(b15.keep0 ((Chg.refl [] _).alloc _)).c0, (b15.keep0 ((Chg.refl [] _).alloc _)).c1, (b15.keep0 ((Chg.refl [] _).alloc _)).c2⟩) (first
          | (go_at_call 51
             (with_reducible refine (HPU.out _ HX.out).mono ?_)
             rintro e w3 ⟨z3, rfl, hz3, c1⟩
             have HZ3 := Lib.hid hz3
             replace b6 := b6.keep c1 (by simp)
             replace b12 := b12.keep c1 (by simp)
             replace b15 := b15.keep c1 (by simp)
             have HX2 := Lib.hid (HX.out.keep0 c1)
             have HOWN2 := Lib.hid (HOWN.out.keep0 c1)
             replace hch := hch.then c1
             clear c1 hz3)
          | (go_at_call 24
             (with_reducible refine (AddN y z3 1 q 1 (KP k) _ HY.out.num HZ3.out.num (by have := HF.out.le; unfold KP; omega)).mono ?_)
             rintro e w4 ⟨z4, rfl, hz4, c1⟩
             have HZ4 := Lib.hid hz4
             replace b6 := b6.keep c1 (by simp)
             replace b12 := b12.keep c1 (by simp)
             replace b15 := b15.keep c1 (by simp)
             have HX3 := Lib.hid (HX2.out.keep0 c1)
             have HOWN3 := Lib.hid (HOWN2.out.keep0 c1)
             replace hch := hch.then c1
             clear c1 hz4)
          | (refine step_append3 _ (by rfl) _ _ (by rfl) u16 zs (by rfl) (HOWN3.out.keep0 ((Chg.refl [] _).alloc _)) _ 1 1 [z4] (by rfl) rfl (rds_one _ z4) (by rw [HZL.out]; omega) ?_
             intro v5 w5 own5 cv5 hv5
             have HO5 := Lib.hid own5
             have HPB5 : Hid (∀ x ∈ v5.ownBlock.toList, w2.heap.size < x) := Lib.hid fun x hx => by
               rcases hv5 with h5 | h5
               · rw [h5] at hx; exact HPB.out x hx
               · rw [h5] at hx; simp at hx; have := b15.lt; omega
             have c6 : Chg u16.ownBlock.toList w4 w5 := (((Chg.refl [] _).alloc _).mono (fun x hx => by cases hx)).trans cv5 (fun x hx => .inl hx)
             replace b6 := b6.keep c6 (fun hm => by have := HPB.out _ hm; omega)
             replace b12 := b12.keep c6 (fun hm => by have := HPB.out _ hm; omega)
             replace b15 := b15.keep c6 (fun hm => by have := HPB.out _ hm; omega)
             have HX5 := Lib.hid (HX3.out.keepL HLOW.out c6 (fun x hx => by have := HPB.out x hx; omega))
             replace hch := hch.trans c6 (fun x hx => .inr (by have := HPB.out x hx; omega))
             clear own5 cv5 hv5 c6)
          | fail)
        all_goals
          have HZL5 : Hid ((zs ++ [z4]).length = j + 1) := Lib.hid (by rw [List.length_append, HZL.out]; rfl)
          have HZV5 : Hid (∀ z ∈ zs ++ [z4], Val z (ratOf z) (KF k)) := Lib.hid fun z hz => by
            rcases List.mem_append.1 hz with h | h
            · exact HZV.out z h
            · rw [List.mem_singleton.1 h, HZ4.out.num.rat]; exact HZ4.out.mono (by unfold KF; omega)
          have HPR5 : Hid (prodQ (zs ++ [z4]) = gro (slQ l) (b : Rat) f t n (j + 1)) := Lib.hid (by
            rw [prodQ_one, HPR.out, HZ4.out.num.rat, HFQ.out]; rfl)
          go_wp2_with fail
          go_roundw
          case rel => exact ⟨j + 1, zs ++ [z4], by rw [HEE.out], HO5.out, HZL5.out, by omega, HZV5.out, HPR5.out, HPB5.out, b6, b12, b15, HX5.out, hch⟩
          case measure => simp [intOf]; omega
      · have hgr : prodQ zs = growth (slQ l) (b : Rat) f t n := by rw [HPR.out]; exact gro_growth hn1 (by rw [HJ.out]; have := HS.out; omega)
        obtain ⟨B, cb, rfl, hc1, hc2, hr⟩ := hown.rds
        have HRD := Lib.hid hr
        have hlen : zs.length * KF k ≤ 64 * KF k := Nat.mul_le_mul_right _ (by rw [HZL.out]; exact hj)
        have hkf : 64 * KF k ≤ 64 * 70000 := Nat.mul_le_mul_left _ (by have := HF.out.le; unfold KF KP; omega)
        have HPD := Lib.hid (fun w h => product_list zs B cb (KF k) w HZV.out (by unfold KF; omega) hc1 hc2 (by omega) h)
        obtain ⟨G2, HG2⟩ := name_it (growth (slQ l) (b : Rat) f t n)
        rw [HG2.out] at hgr HVE
        rw [hgr] at HPD
        obtain ⟨K2, HK2⟩ := name_it (zs.length * KF k + 1)
        rw [HK2.out] at HPD
        have hk2 : K2 + 2 ≤ KG k := by have := HK2.out; unfold KG; omega
        have hk3 : K2 ≤ 5000000 := by have := HK2.out; omega
        clear hr hgr hlen hkf HK2 HG2 hc1 hc2 hown HJ HJ2 HFAC HS
        go_wp2_with fail
        go_cut [19] (fun pv wx => ∃ (g19 : Nat) (z : Q3), pv = .pointer (some ⟨g19, 0, none⟩) ∧ Val z (G2 - 1) (KG k) ∧ Blk3 wx g19 (.bool z.neg) (.string z.num) (.string z.den) ∧ Blk3 wx w.heap.size (.bool x.neg) (.string x.num) (.string x.den) ∧ Blk3 wx (w.heap.size + 1) (.bool false) (.string ⟨#[]⟩) (.string ⟨#[]⟩) ∧ w.heap.size + 1 < g19 ∧ Chg [] w wx)
        case first =>
          have bw := b15
          have bwc0 := bw.c0
          have bwc1 := bw.c1
          have bwc2 := bw.c2
          have bwf0 := bw.f0
          have bwf1 := bw.f1
          have bwf2 := bw.f2
          have bwl := bw.lt
          have hbwl := b15.lt
          have c8 : Chg [] wr wr.drew := (Chg.refl _ _).drew
          replace b6 := b6.keep c8 (by simp)
          replace b12 := b12.keep c8 (by simp)
          replace b15 := b15.keep c8 (by simp)
          replace hx := hx.keep0 c8
          replace hch := hch.then c8
          clear c8
          have HRD2 := Lib.hid (HRD.out.keep0 ((Chg.refl [] wr).drew))
          clear hx
          have hwn : w2.heap.size ≠ wr.heap.size := by omega
          have b15c0 := b15.c0
          have b15c1 := b15.c1
          have b15c2 := b15.c2
          have b15f0 := b15.f0
          have b15f1 := b15.f1
          have b15f2 := b15.f2
          have b15l := b15.lt
          go_region_with (first
            | (go_at_call 53
               (with_reducible refine (HPD.out _ (by first | exact HRD2.out | exact HRD2.out.keep0 ((Chg.refl [] _).alloc _))).mono ?_)
               rintro e w6 ⟨y6, rfl, hy6, c6⟩
               have HY6 := Lib.hid hy6
               clear b15c0 b15c1 b15c2 b15f0 b15f1 b15f2 b15l
               have c6d : Chg [] wr.drew w6 := by first | exact c6 | exact ((Chg.refl [] _).alloc _).then c6
               try (have b19 : Blk3 w6 wr.heap.size (.bool false) (.string ⟨#[]⟩) (.string ⟨#[]⟩) := (Blk3.alloc wr.drew (.bool false) (.string ⟨#[]⟩) (.string ⟨#[]⟩) 29).keep c6 (by simp))
               replace b6 := b6.keep c6d (by simp)
               replace b12 := b12.keep c6d (by simp)
               replace b15 := b15.keep c6d (by simp)
               replace hch := hch.then c6d
               have hsz6 : wr.heap.size ≤ w6.heap.size := c6d.size
               have hwn6 : w2.heap.size ≠ w6.heap.size := by omega
               clear hy6 c6 c6d
               have b15c0 := b15.c0
               have b15c1 := b15.c1
               have b15c2 := b15.c2
               have b15f0 := b15.f0
               have b15f1 := b15.f1
               have b15f2 := b15.f2
               have b15l := b15.lt
               skip)
            | (go_at_call 52
               (with_reducible refine (SubtractN y6 y G2 1 K2 1 _ HY6.out.num HY.out.num (by omega)).mono ?_)
               rintro e w7 ⟨z7, rfl, hz7, c7⟩
               have HZ7 := Lib.hid (hz7.mono (show K2 + 1 + 1 ≤ KG k by omega))
               clear b15c0 b15c1 b15c2 b15f0 b15f1 b15f2 b15l
               have c7d : Chg [] w6 w7 := by first | exact c7 | exact ((Chg.refl [] _).alloc _).then c7
               first | (replace b19 := b19.keep c7 (by simp)) | (have b19 := (Blk3.alloc w6 (.bool false) (.string ⟨#[]⟩) (.string ⟨#[]⟩) 29).keep c7 (by simp)) | (have b19 := Blk3.alloc w7 (.bool z7.neg) (.string z7.num) (.string z7.den) 29)
               replace b6 := b6.keep c7d (by simp)
               replace b12 := b12.keep c7d (by simp)
               replace b15 := b15.keep c7d (by simp)
               replace hch := hch.then c7d
               have hsz7 : w6.heap.size ≤ w7.heap.size := c7d.size
               clear hz7 c7 c7d
               have b15c0 := b15.c0
               have b15c1 := b15.c1
               have b15c2 := b15.c2
               have b15f0 := b15.f0
               have b15f1 := b15.f1
               have b15f2 := b15.f2
               have b15l := b15.lt
               have b19c0 := b19.c0
               have b19c1 := b19.c1
               have b19c2 := b19.c2
               have b19f0 := b19.f0
               have b19f1 := b19.f1
               have b19f2 := b19.f2
               have b19l := b19.lt
               skip))
          all_goals
            clear bwc0 bwc1 bwc2 bwf0 bwf1 bwf2 bwl
            go_wp2_with fail
            go_meet
            first
              | exact ⟨_, z7, rfl, HZ7.out, b19, b6.keep ((Chg.refl [] w7).alloc _) (by simp), b12.keep ((Chg.refl [] w7).alloc _) (by simp), by omega, hch.alloc _⟩
              | exact ⟨_, z7, rfl, HZ7.out, b19.store _ _ _, b6.keep ((Chg.refl [w6.heap.size] w7).store3 (g := w6.heap.size) (.inl (by simp)) _ _ _) (by simp; omega), b12.keep ((Chg.refl [w6.heap.size] w7).store3 (g := w6.heap.size) (.inl (by simp)) _ _ _) (by simp; omega), by omega, hch.store3 (g := w6.heap.size) (.inr (by omega)) _ _ _⟩
              | exact ⟨_, z7, rfl, HZ7.out, b19.store _ _ _, b6.keep ((Chg.refl [wr.heap.size] w7).store3 (g := wr.heap.size) (.inl (by simp)) _ _ _) (by simp; omega), b12.keep ((Chg.refl [wr.heap.size] w7).store3 (g := wr.heap.size) (.inl (by simp)) _ _ _) (by simp; omega), by omega, hch.store3 (g := wr.heap.size) (.inr (by omega)) _ _ _⟩
        case rest =>
          clear b6 b12 b15 hch hx
          obtain ⟨g19, z, rfl, hz, b19, b6, b12, hlt19, hch⟩ := hcut
          have HZ := Lib.hid hz
          clear hz
          have b19c0 := b19.c0
          have b19c1 := b19.c1
          have b19c2 := b19.c2
          have b19f0 := b19.f0
          have b19f1 := b19.f1
          have b19f2 := b19.f2
          have b19l := b19.lt
          have b6c0 := b6.c0
          have b6c1 := b6.c1
          have b6c2 := b6.c2
          have b6f0 := b6.f0
          have b6f1 := b6.f1
          have b6f2 := b6.f2
          have b6l := b6.lt
          go_wp2_with fail
          refine (MultiplyN x z p (G2 - 1) kp (KG k) _ HP.out HZ.out.num (by have := HF.out.le; unfold KG KF KP; omega)).mono ?_
          rintro e w8 ⟨z8, rfl, hz8, c8⟩
          rw [← HVE.out] at hz8
          have HZ8 := Lib.hid hz8
          clear b19c0 b19c1 b19c2 b19f0 b19f1 b19f2 b19l b6c0 b6c1 b6c2 b6f0 b6f1 b6f2 b6l
          replace b12 := b12.keep c8 (by simp)
          replace hch := hch.then c8
          clear c8 hz8
          have b12c0 := b12.c0
          have b12c1 := b12.c1
          have b12c2 := b12.c2
          have b12f0 := b12.f0
          have b12f1 := b12.f1
          have b12f2 := b12.f2
          have b12l := b12.lt
          go_wp2_with fail
          have S := b12.store (.bool z8.neg) (.string z8.num) (.string z8.den)
          exact bodyPost_ret (v := .tuple #[.agg #[.bool z8.neg, .string z8.num, .string z8.den], .int .i64 0]) (by simp [results, Try.results28, go_sem, S.c0, S.c1, S.c2]) rfl ⟨z8, rfl, HZ8.out, hch.store3 (.inr (by omega)) _ _ _⟩
  · have hv : v = 0 := by rw [← HV.out]; unfold cmpV; rw [HR.out, if_neg hr0]
    subst hv
    have d1 : (r == 0) = false := by simp; exact hr0
    have hz : Hid (Val q0 0 (kp + KG k)) := Lib.hid (Val_zeroK (by unfold KG; omega))
    clear HR HV hr0
    go_enter Try.func28, Try.ntmps28
    have b6c0 := b6.c0
    have b6c1 := b6.c1
    have b6c2 := b6.c2
    have b6f0 := b6.f0
    have b6f1 := b6.f1
    have b6f2 := b6.f2
    have b6l := b6.lt
    go_wp2_with fail
    refine (HTM.out _ hx1).mono ?_
    rintro e w1 ⟨rfl, c1⟩
    clear b6c0 b6c1 b6c2 b6f0 b6f1 b6f2 b6l
    replace b12 := b12.keep c1 (by simp)
    replace hch := hch.then c1
    have b12c0 := b12.c0
    have b12c1 := b12.c1
    have b12c2 := b12.c2
    have b12f0 := b12.f0
    have b12f1 := b12.f1
    have b12f2 := b12.f2
    have b12l := b12.lt
    go_wp2_with fail
    have S := b12.store (.bool false) (.string ⟨#[]⟩) (.string ⟨#[]⟩)
    exact bodyPost_ret (v := .tuple #[.agg #[.bool false, .string ⟨#[]⟩, .string ⟨#[]⟩], .int .i64 r]) (by simp [results, Try.results28, go_sem, S.c0, S.c1, S.c2]) rfl ⟨q0, rfl, hz.out, hch.store3 (.inr (by omega)) _ _ _⟩
end Go.Proofs.Ytcfejphpflafiaa
