/-
  Elimination over integers: eliminate.
-/
import Derived.Test.YtpaochhaenehmaaGU
namespace Go.Proofs.Ytpaochhaenehmaa
open Go.RowKit Nd
def ratI (E : Nat → Nat → Int) : Nat → Nat → Rat := fun i j => ((E i j : Int) : Rat)
def swI (E : Nat → Nat → Int) (r p : Nat) : Nat → Nat → Int := fun i => if i = r then E p else if i = p then E r else E i
theorem swp_ratI (E : Nat → Nat → Int) (r p : Nat) : swp (ratI E) r p = ratI (swI E r p) := by
  funext i j
  unfold swp swI ratI
  by_cases h1 : i = r
  · simp [h1]
  · by_cases h2 : i = p
    · subst h2; simp [h1]
    · simp [h1, h2]
/-- Row i is done: cleared in column c by row r. -/
def Done (S G : Nat → Nat → Rat) (r c m i : Nat) : Prop :=
  (i = r → ∀ j, j < m → G i j = S r j) ∧ (i ≠ r → S i c = 0 → ∀ j, j < m → G i j = S i j) ∧
    (i ≠ r → S i c ≠ 0 → ∃ s : Rat, s ≠ 0 ∧ ∀ j, j < m → G i j = s * (S r c * S i j - S i c * S r j))
/-- The first l rows are done, the others as they were. -/
structure Mid (S G : Nat → Nat → Rat) (r c n m l : Nat) : Prop where
  done : ∀ i, i < n → i < l → Done S G r c m i
  rest : ∀ i, i < n → l ≤ i → ∀ j, j < m → G i j = S i j
  prow : ∀ j, j < m → G r j = S r j
theorem Mid.start (S : Nat → Nat → Rat) (r c n m : Nat) : Mid S S r c n m 0 := ⟨fun i _ h => absurd h (by omega), fun _ _ _ _ _ => rfl, fun _ _ => rfl⟩
theorem Mid.skip {S G : Nat → Nat → Rat} {r c n m l : Nat} (h : Mid S G r c n m l) (hl : l < n) (h1 : l = r ∨ S l c = 0) : Mid S G r c n m (l + 1) := by
  refine ⟨fun i hi hil => ?_, fun i hi hil => h.rest i hi (by omega), h.prow⟩
  rcases Nat.lt_or_ge i l with h2 | h2
  · exact h.done i hi h2
  · obtain rfl : i = l := by omega
    refine ⟨fun e j hj => by rw [h.rest i hi (Nat.le_refl _) j hj, e], fun _ _ j hj => h.rest i hi (Nat.le_refl _) j hj, fun e1 e2 => ?_⟩
    rcases h1 with h1 | h1
    · exact absurd h1 e1
    · exact absurd h1 e2
theorem Mid.put {S G : Nat → Nat → Rat} {r c n m l : Nat} (h : Mid S G r c n m l) (hr : l ≠ r) (h0 : S l c ≠ 0) {b : Nat → Rat} {s : Rat} (hs : s ≠ 0) (hb : ∀ j, j < m → b j = s * (S r c * S l j - S l c * S r j)) : Mid S (fun i => if i = l then b else G i) r c n m (l + 1) := by
  refine ⟨fun i hi hil => ?_, fun i hi hil j hj => ?_, fun j hj => ?_⟩
  · by_cases he : i = l
    · subst he
      exact ⟨fun e => absurd e hr, fun _ e => absurd e h0, fun _ _ => ⟨s, hs, fun j hj => by simp only [if_true]; exact hb j hj⟩⟩
    · have := h.done i hi (by omega)
      unfold Done at this ⊢
      simp only [he, if_false]
      exact this
  · simp only [show i ≠ l by omega, if_false]; exact h.rest i hi (by omega) j hj
  · simp only [Ne.symm hr, if_false]; exact h.prow j hj
theorem Vals.set {M : List (List Q3)} {f : Nat → Nat → Rat} {n m k l : Nat} {zs : List Q3} {q : Nat → Rat} (h : Vals M f n m k) (hl : l < n) (hz : Row1 zs q m k) : Vals (M.set l zs) (fun i => if i = l then q else f i) n m k := by
  have hlM : l < M.length := by rw [h.len]; exact hl
  refine ⟨by rw [List.length_set]; exact h.len, fun i hi => ?_, fun i hi j hj => ?_⟩
  · rw [getD_setM M [] zs hlM]
    by_cases he : i = l
    · rw [if_pos he]; exact hz.len
    · rw [if_neg he]; exact h.row i hi
  · rw [getD_setM M [] zs hlM]
    by_cases he : i = l
    · simp only [he, if_true]; exact hz.val j hj
    · simp only [he, if_false]; exact h.val i hi j hj
theorem Vals.mono {M : List (List Q3)} {f : Nat → Nat → Rat} {n m k l : Nat} (h : Vals M f n m k) (hl : k ≤ l) : Vals M f n m l := ⟨h.len, h.row, fun i hi j hj => (h.val i hi j hj).mono hl⟩
theorem Vals.congr {M : List (List Q3)} {f g : Nat → Nat → Rat} {n m k : Nat} (h : Vals M f n m k) (e : ∀ i, i < n → ∀ j, j < m → f i j = g i j) : Vals M g n m k := ⟨h.len, h.row, fun i hi j hj => by rw [← e i hi j hj]; exact h.val i hi j hj⟩
/-- Two rows exchanged. -/
theorem Vals.swap {M : List (List Q3)} {f : Nat → Nat → Rat} {n m k r p : Nat} (h : Vals M f n m k) (hr : r < n) (hp : p < n) : Vals ((M.set r (M.getD p [])).set p (M.getD r [])) (swp f r p) n m k := by
  have h1 := (h.set hr (h.at_ hp)).set hp (h.at_ hr)
  refine h1.congr fun i _ j _ => ?_
  unfold swp
  by_cases e1 : i = p
  · subst e1
    by_cases e2 : i = r
    · simp [e2]
    · simp [e2]
  · by_cases e2 : i = r
    · subst e2; simp [e1]
    · simp [e1, e2]
theorem ratI_if (E : Nat → Nat → Int) (b : Nat → Int) (l : Nat) : (fun i => if i = l then (fun j => ((b j : Int) : Rat)) else ratI E i) = ratI (fun i => if i = l then b else E i) := by
  funext i j
  unfold ratI
  by_cases h : i = l
  · simp [h]
  · simp [h]
theorem diff_lt {a b c d : Int} {k : Nat} (ha : a.natAbs < 256 ^ k) (hb : b.natAbs < 256 ^ k) (hc : c.natAbs < 256 ^ k) (hd : d.natAbs < 256 ^ k) : (a * b - c * d).natAbs < 256 ^ (2 * k + 1) := by
  have h1 : (a * b).natAbs < 256 ^ (2 * k) := by rw [Int.natAbs_mul, show 2 * k = k + k by omega]; exact mul_lt_pow ha hb
  have h2 : (c * d).natAbs < 256 ^ (2 * k) := by rw [Int.natAbs_mul, show 2 * k = k + k by omega]; exact mul_lt_pow hc hd
  have h3 : (256 : Nat) ^ (2 * k + 1) = 256 ^ (2 * k) * 256 := Nat.pow_succ ..
  omega
/-- The bound of the parts after c columns. -/
def KK (k c : Nat) : Nat := (k + 1) * 2 ^ c - 1
theorem KK_zero (k : Nat) : KK k 0 = k := by unfold KK; simp
theorem KK_succ (k c : Nat) : 2 * KK k c + 1 = KK k (c + 1) := by
  unfold KK
  have h : 0 < (k + 1) * 2 ^ c := Nat.mul_pos (by omega) (Nat.pow_pos (by omega))
  rw [Nat.pow_succ, ← Nat.mul_assoc]
  omega
theorem KK_le (k : Nat) {c d : Nat} (h : c ≤ d) : KK k c ≤ KK k d := by
  unfold KK
  have : (k + 1) * 2 ^ c ≤ (k + 1) * 2 ^ d := Nat.mul_le_mul_left _ (Nat.pow_le_pow_right (by omega) h)
  omega
theorem ech_none {f : Nat → Nat → Rat} {n c : Nat} (h : ¬ pivR (ech f n c).1 n (ech f n c).2.length c < n) : ech f n (c + 1) = ech f n c := by rw [ech, if_neg h]
theorem ech_some {f : Nat → Nat → Rat} {n c p : Nat} (hp : pivR (ech f n c).1 n (ech f n c).2.length c = p) (h : p < n) : ech f n (c + 1) = (stp (ech f n c).1 (ech f n c).2.length c p, (ech f n c).2 ++ [c]) := by
  subst hp; rw [ech, if_pos h]
theorem done_step {E G : Nat → Nat → Rat} {r c m p i : Nat} (h : Done (swp E r p) G r c m i) :
    (i = r → ∀ j, j < m → G i j = E p j) ∧ (i ≠ r → swp E r p i c = 0 → ∀ j, j < m → G i j = swp E r p i j) ∧
      (i ≠ r → swp E r p i c ≠ 0 → ∃ s : Rat, s ≠ 0 ∧ ∀ j, j < m → G i j = s * (E p c * swp E r p i j - swp E r p i c * E p j)) := by
  have e : swp E r p r = E p := by unfold swp; simp
  unfold Done at h
  rw [e] at h
  exact h
theorem cleared_val {E : Nat → Nat → Int} {r l c : Nat} : (fun j => ratI E r c * ratI E l j - ratI E l c * ratI E r j) = fun j => ((E r c * E l j - E l c * E r j : Int) : Rat) := by
  funext j; unfold ratI; rw [Rat.intCast_sub, Rat.intCast_mul, Rat.intCast_mul]

theorem Try.infoInt : (Try.prog.info? 3).map (fun i => (i.zero, i.size, i.bytes)) = some (some (.int .i64 0), 1, 8) := by kernel_rfl
set_option maxRecDepth 20000 in
set_option maxHeartbeats 8000000 in
theorem eliminate_any (M : List (List Q3)) (E : Nat → Nat → Int) (n m k width g cap : Nat) (w : World) (hv : Vals M (ratI E) n m k) (_ : 1 ≤ k) (hwd : width ≤ m) (hn : n ≤ 1000000) (hm : m ≤ 1000000) (hb : KK k width ≤ 4294967296) (hM : Mut w [] g cap M) :
    Calls Try.prog 35 #[.slice (some ⟨g, 0, none⟩) n cap, .int .i64 width] w fun e w' => ∃ gp cp M' E', e = .returned (.slice (some ⟨gp, 0, none⟩) (ech (ratI E) n width).2.length cp) ∧ Row 3 .i64 w' gp cp (ech (ratI E) n width).2 ∧ w.heap.size ≤ gp ∧ Vals M' (ratI E') n m (KK k width) ∧ Prp (ratI E') (ech (ratI E) n width).1 n m ∧ Mut w' [] g cap M' ∧ Chg [g] w w' := by
  obtain ⟨i0, hi, hz0, hz1, hz2⟩ := info_parts Try.infoInt
  have hgw := hM.lt
  have hch : Chg [g] w w := Chg.refl _ _
  have FITS := Lib.hid hM.fits
  have HB := Lib.hid hb
  clear hb
  have hV0 : Vals M (ratI E) n m (KK k 0) := by rw [KK_zero]; exact hv
  have hP0 : Prp (ratI E) (ech (ratI E) n 0).1 n m := Prp.refl _ _ _
  obtain ⟨F, HF⟩ := name_it (ratI E)
  rw [HF.out] at hP0 ⊢
  have hP1 := Lib.hid hP0
  clear hP0 hv
  go_enter Try.func35, Try.ntmps35
  go_wp2_with fail
  have hrow : Row 3 .i64 (w.alloc (.cells #[] 3)) w.heap.size 0 [] := Row.of_alloc w #[] [] (by simp [vals]) (by simp)
  have hM := (hM.regs (hs := [w.heap.size]) (by simp)).keep0 ((Chg.refl [] w).alloc (.cells #[] 3))
  replace hch := hch.alloc (.cells #[] 3)
  go_loopw [5, 13] (fun pvv iv wr => ∃ (c gp cp : Nat) (M1 : List (List Q3)) (E1 : Nat → Nat → Int), c ≤ width ∧ iv = .int .i64 c ∧ pvv = .slice (some ⟨gp, 0, none⟩) (ech F n c).2.length cp ∧ Row 3 .i64 wr gp cp (ech F n c).2 ∧ w.heap.size ≤ gp ∧ Vals M1 (ratI E1) n m (KK k c) ∧ Prp (ratI E1) (ech F n c).1 n m ∧ Mut wr [gp] g cap M1 ∧ Chg [g] w wr) (fun _ iv _ => width - (intOf iv).toNat)
  case atStart => exact ⟨0, w.heap.size, 0, M, E, Nat.zero_le _, rfl, rfl, hrow, Nat.le_refl _, hV0, by rw [HF.out]; exact hP1.out, hM, hch⟩
  case round =>
    clear hrow hV0 hP1 hM hch
    obtain ⟨c, gp, cp, M1, E1, hc, rfl, rfl, hrow, hgp, hV, hP, hM, hch⟩ := hrel
    have EH := Lib.hid (ech_holds F n c)
    have hle := EH.out.len
    obtain ⟨f, Hf⟩ := name_it (ech F n c).1
    obtain ⟨pv, Hpv⟩ := name_it (ech F n c).2
    rw [Hf.out] at hP EH
    rw [Hpv.out] at hrow hle EH ⊢
    have HV := Lib.hid hV
    have HP := Lib.hid hP
    clear hV hP
    obtain ⟨r, Hr⟩ := name_it pv.length
    rw [Hr.out] at hle
    try rw [Hr.out]
    have hKc := Nat.le_trans (KK_le k hc) HB.out
    by_cases hlt : c < width
    · have hcm : c < m := by omega
      obtain ⟨p, Hp⟩ := name_it (pivR f n r c)
      have hpe := Lib.hid ((HP.out.piv hle hcm).trans Hp.out)
      have hpb := pivR_le (f := f) (c := c) hle
      rw [Hp.out] at hpb
      go_wp2_with fail
      refine (pivotRow_any M1 (ratI E1) n m (KK k c) r c (some ⟨g, 0, none⟩) cap _ HV.out hle hcm hn hm (by omega) hM.mtx).mono ?_
      rintro e w1 ⟨rfl, c1⟩
      rw [show pivI (ratI E1) n r c = (if p < n then (p : Int) else -1) by unfold pivI; rw [hpe.out]]
      replace hM := hM.keep0 c1
      replace hrow := hrow.keep c1 (by simp)
      replace hch := hch.then c1
      clear c1
      by_cases hpn : p < n
      · rw [if_pos hpn]
        have i1 : (0 : Int) ≤ (r : Int) := by omega
        have i2 : (r : Int) < (n : Int) := by omega
        have i3 : (0 : Int) ≤ (p : Int) := by omega
        have i4 : (p : Int) < (n : Int) := by omega
        have hL1 := HV.out.len
        have hpl : ¬ (p : Int) < 0 := by omega
        go_upto_region 8 with fail
        go_cut [8] (fun qv wx => ∃ M2, qv = .int .i64 p ∧ Mut wx [gp] g cap M2 ∧ Vals M2 (swp (ratI E1) r p) n m (KK k c) ∧ Row 3 .i64 wx gp cp pv ∧ Chg [g] w wx)
        case first =>
          have hsw := Lib.hid (HV.out.swap (r := r) (p := p) (by omega) hpn)
          obtain ⟨Bp, cp2, d0, hd1, hd2, hBp, oBp⟩ := hM.at_ (i := p) (by omega)
          obtain ⟨Br, cr2, f0, hf1, hf2, hBr, oBr⟩ := hM.at_ (i := r) (by omega)
          have f1 := hM.frozen p
          have f2 := hM.frozen r
          have hgne : gp ≠ g := by omega
          have hM2 := (hM.store (i := r) (by omega) hd1 hd2 hBp oBp)
          have hc2 : Chg [g] w1 (w1.setCell ⟨g, r, none⟩ (.slice Bp (M1.getD p []).length cp2)) := (Chg.refl [g] _).setCell (.inl (by simp)) _
          have hM3 := Lib.hid (hM2.store (i := p) (by rw [List.length_set]; omega) hf1 hf2 (hBr.keepN hc2 (fun hl a ha hm => oBr hl a ha (by simp at hm; subst hm; simp))) oBr)
          clear hM2 hc2
          have hrow2 := Lib.hid ((hrow.other (p := ⟨g, r, none⟩) hgne (.slice Bp (M1.getD p []).length cp2)).other (p := ⟨g, p, none⟩) hgne (.slice Br (M1.getD r []).length cr2))
          have hch2 := Lib.hid ((hch.setCell (p := ⟨g, r, none⟩) (.inl (by simp)) (.slice Bp (M1.getD p []).length cp2)).setCell (p := ⟨g, p, none⟩) (.inl (by simp)) (.slice Br (M1.getD r []).length cr2))
          clear hM hBp hBr oBp oBr hd1 hd2 hf1 hf2
          obtain ⟨yp, HYp⟩ := name_it (M1.getD p [])
          obtain ⟨yr, HYr⟩ := name_it (M1.getD r [])
          rw [HYp.out] at d0 hM3 hrow2 hch2 hsw
          rw [HYr.out] at f0 hM3 hrow2 hch2 hsw
          by_cases hpr : p = r
          · subst hpr
            have e1 := d0.symm.trans f0
            simp only [Option.some.injEq, Value.slice.injEq] at e1
            obtain ⟨rfl, e2, rfl⟩ := e1
            try rw [e2] at hM3 hrow2 hch2
            clear d0
            go_region
            go_wp2_with fail
            go_meet
            exact ⟨_, rfl, hM3.out.keep0 ((Chg.refl [] _).drew), hsw.out, hrow2.out.keep ((Chg.refl [] _).drew) (by simp), hch2.out.drew⟩
          · have hrp : ¬ r = p := fun h => hpr h.symm
            go_region
            go_wp2_with fail
            go_meet
            exact ⟨_, rfl, hM3.out.keep0 ((Chg.refl [] _).drew), hsw.out, hrow2.out.keep ((Chg.refl [] _).drew) (by simp), hch2.out.drew⟩
        case rest =>
          clear hM hrow hch
          obtain ⟨M2, rfl, hM, hV2, hrow, hch⟩ := hcut
          rw [swp_ratI] at hV2
          obtain ⟨S, HS⟩ := name_it (swI E1 r p)
          rw [HS.out] at hV2
          have HV2 := Lib.hid hV2
          clear hV2
          go_wp2_with fail
          go_loopw [40] (fun iv wr => ∃ (l : Nat) (M3 : List (List Q3)) (E3 : Nat → Nat → Int), l ≤ n ∧ iv = .int .i64 l ∧ Mut wr [gp] g cap M3 ∧ Vals M3 (ratI E3) n m (KK k (c + 1)) ∧ (∀ i, i < n → (l ≤ i ∨ i = r) → Row1 (M3.getD i []) (ratI E3 i) m (KK k c)) ∧ Mid (ratI S) (ratI E3) r c n m l ∧ Row 3 .i64 wr gp cp pv ∧ Chg [g] w wr) (fun iv _ => n - (intOf iv).toNat)
          case atStart => exact ⟨0, M2, S, Nat.zero_le _, rfl, hM, HV2.out.mono (KK_le k (by omega)), fun i hi _ => HV2.out.at_ hi, Mid.start _ _ _ _ _, hrow, hch⟩
          case round =>
            clear hM hrow hch
            obtain ⟨l, M3, E3, hl, rfl, hM, hV3, hsm, hmid, hrow, hch⟩ := hrel
            have HV3 := Lib.hid hV3
            have HSM := Lib.hid hsm
            have HMID := Lib.hid hmid
            clear hV3 hsm hmid
            by_cases hln : l < n
            · have hL3 := HV3.out.len
              obtain ⟨Bl, cl, d0, hd1, hd2, hBl, oBl⟩ := hM.at_ (i := l) (by omega)
              have f0 := hM.frozen l
              have R1 := Lib.hid (HSM.out l hln (.inl (Nat.le_refl _)))
              obtain ⟨yl, HYl⟩ := name_it (M3.getD l [])
              rw [HYl.out] at d0 hd1 hBl oBl R1
              have hyl := R1.out.len
              rw [hyl] at d0 hd1
              have j1 : (0 : Int) ≤ (l : Int) := by omega
              have j2 : (l : Int) < (n : Int) := by omega
              by_cases hlr : l = r
              · have hle2 : ((l : Int) != (r : Int)) = false := by simp [hlr]
                have MS := Lib.hid (HMID.out.skip hln (.inl hlr))
                have HSM2 : Hid (∀ i, i < n → (l + 1 ≤ i ∨ i = r) → Row1 (M3.getD i []) (ratI E3 i) m (KK k c)) := Lib.hid fun i hi h => HSM.out i hi (by omega)
                have HLR := Lib.hid hlr
                clear hlr
                go_wp2_with fail
                go_roundw
                case rel => exact ⟨l + 1, M3, E3, by omega, by go_num, hM, HV3.out, HSM2.out, MS.out, hrow, hch⟩
                case measure => simp [intOf]; omega
              · have hle2 : ((l : Int) != (r : Int)) = true := by simp; omega
                obtain ⟨g2, o2, rfl, _⟩ := hBl.form (by omega)
                have el := hBl.el (j := c) (by omega)
                have vx := R1.out.val c hcm
                obtain ⟨x, HX2⟩ := name_it (yl.getD c q0)
                rw [HX2.out] at el vx
                have e0 := el.a
                have e1 := el.b
                have e2 := el.c
                obtain ⟨y, HY⟩ := name_it (ratI E3 l c)
                rw [HY.out] at vx
                have k3 : (0 : Int) ≤ (c : Int) := by omega
                have k4 : (c : Int) < (m : Int) := by omega
                clear el
                go_wp2_with fail
                refine (SignN x y (KK k c) _ vx.num (by omega)).mono ?_
                rintro e w2 ⟨rfl, c1⟩
                replace hM := hM.keep0 c1
                replace hrow := hrow.keep c1 (by simp)
                replace hch := hch.then c1
                replace hBl := hBl.keep0 c1
                clear c1 e0 e1 e2 d0 f0
                by_cases hy : y = 0
                · have hs0 : ratI S l c = 0 := by rw [← HMID.out.rest l hln (Nat.le_refl _) c hcm, HY.out]; exact hy
                  have MS := Lib.hid (HMID.out.skip hln (.inr hs0))
                  have HSM2 : Hid (∀ i, i < n → (l + 1 ≤ i ∨ i = r) → Row1 (M3.getD i []) (ratI E3 i) m (KK k c)) := Lib.hid fun i hi h => HSM.out i hi (by omega)
                  rw [hy, sg_nil2]
                  clear hs0
                  go_wp2_with fail
                  go_roundw
                  case rel => exact ⟨l + 1, M3, E3, by omega, by go_num, hM, HV3.out, HSM2.out, MS.out, hrow, hch⟩
                  case measure => simp [intOf]; omega
                · have hs0 : Hid (ratI S l c ≠ 0) := by show _ ≠ _; rw [← HMID.out.rest l hln (Nat.le_refl _) c hcm, HY.out]; exact hy
                  obtain ⟨Br, cr, f0, hf1, hf2, hBr, oBr⟩ := hM.at_ (i := r) (by omega)
                  have R2 := Lib.hid (HSM.out r (by omega) (.inr rfl))
                  obtain ⟨yr, HYr⟩ := name_it (M3.getD r [])
                  rw [HYr.out] at f0 hBr R2
                  rw [R2.out.len] at f0
                  rcases sg_one2 hy with hg | hg
                  all_goals
                    rw [hg]
                    clear hg
                    go_wp2_with fail
                    refine (cleared_any yl yr (ratI E3 l) (ratI E3 r) m (KK k c) c (some ⟨g2, o2, none⟩) Br cl cr _ R1.out R2.out hcm hm (by omega) hBl hBr).mono ?_
                    rintro e w3 ⟨gz, zs, rfl, hgz, hzs, hz, c1⟩
                    have hgz2 := Nat.le_trans hch.size hgz
                    have hgg := hM.lt
                    have hgpp := hrow.lt
                    replace hM := hM.keep0 c1
                    replace hrow := hrow.keep c1 (by simp)
                    replace hch := hch.then c1
                    clear c1 hBl hBr f0
                    rw [cleared_val] at hzs
                    have hzi : Row1 zs (fun j => ((E3 r c * E3 l j - E3 l c * E3 r j : Int) : Rat)) m (KK k (c + 1)) := ⟨hzs.len, fun j hj => ⟨(hzs.val j hj).enc, bd_ofInt (by rw [← KK_succ]; exact diff_lt (R2.out.val c hcm).ilt (R1.out.val j hj).ilt (R1.out.val c hcm).ilt (R2.out.val j hj).ilt) (by rw [← KK_succ]; omega)⟩⟩
                    have HZI := Lib.hid hzi
                    have hlz := hzs.len
                    clear hzi hzs
                    have hK1 := Nat.le_trans (KK_le k (show c + 1 ≤ width by omega)) HB.out
                    go_wp2_with fail
                    refine (primitive_any zs (fun j => E3 r c * E3 l j - E3 l c * E3 r j) m (KK k (c + 1)) (some ⟨gz, 0, none⟩) m _ HZI.out (by rw [← KK_succ]; omega) hm (by omega) (Nat.le_refl _) (by omega) hz.rds).mono ?_
                    rintro e w4 ⟨B, cb, zs2, b, rfl, hcb1, hcb2, hB, hBn, hzb, hsame, c1⟩
                    have hBoff : Off [g, gp] B := by
                      intro a ha hmem
                      have h7 : g < a.block ∧ gp < a.block := by
                        rcases hBn with h | ⟨g9, h, h9⟩
                        · rw [h] at ha; cases ha; exact ⟨by show g < gz; omega, by show gp < gz; omega⟩
                        · rw [h] at ha; cases ha; exact ⟨by show g < g9; have := hz.lt; omega, by show gp < g9; have := hz.lt; omega⟩
                      simp at hmem
                      omega
                    replace hM := hM.keep0 c1
                    replace hrow := hrow.keep c1 (by simp)
                    replace hch := hch.then c1
                    clear c1 hz hBn
                    obtain ⟨B0, cl0, d0, _, _, _, _⟩ := hM.at_ (i := l) (by omega)
                    have f0 := hM.frozen l
                    have hlb := hzb.len
                    have hM2 := Lib.hid (hM.store (i := l) (by omega) (by omega : zs2.length ≤ cb) hcb2 hB (fun _ => hBoff))
                    rw [hlb] at hM2
                    have hV4 := Lib.hid (HV3.out.set hln hzb)
                    rw [ratI_if] at hV4
                    have HSM2 : Hid (∀ i, i < n → (l + 1 ≤ i ∨ i = r) → Row1 ((M3.set l zs2).getD i []) (ratI (fun i => if i = l then b else E3 i) i) m (KK k c)) := by
                      show ∀ _, _
                      intro i hi h
                      have hil : i ≠ l := by omega
                      rw [getD_setM M3 [] zs2 (by omega), if_neg hil]
                      have := HSM.out i hi (by omega)
                      refine ⟨this.len, fun j hj => ?_⟩
                      have h8 := this.val j hj
                      show Val _ (((if i = l then b else E3 i) j : Int) : Rat) _
                      rw [if_neg hil]
                      exact h8
                    have MS : Hid (Mid (ratI S) (ratI (fun i => if i = l then b else E3 i)) r c n m (l + 1)) := by
                      show Mid _ _ _ _ _ _ _
                      obtain ⟨t, ht0, ht⟩ := hsame
                      rw [← ratI_if]
                      refine HMID.out.put hlr hs0.out ht0 fun j hj => ?_
                      rw [ht j hj, ← HMID.out.rest l hln (Nat.le_refl _) j hj, ← HMID.out.rest l hln (Nat.le_refl _) c hcm, ← HMID.out.prow j hj, ← HMID.out.prow c hcm]
                      unfold ratI
                      rw [Rat.intCast_sub, Rat.intCast_mul, Rat.intCast_mul]
                    have hrow2 := Lib.hid (hrow.other (p := ⟨g, l, none⟩) (show gp ≠ g by omega) (.slice B m cb))
                    have hch2 := Lib.hid (hch.setCell (p := ⟨g, l, none⟩) (.inl (by simp)) (.slice B m cb))
                    clear hM hrow hch hsame hzb hB hBoff
                    go_wp2_with fail
                    go_roundw
                    case rel => exact ⟨l + 1, M3.set l zs2, _, by omega, by go_num, hM2.out, hV4.out, HSM2.out, MS.out, hrow2.out, hch2.out⟩
                    case measure => simp [intOf]; omega
            · obtain rfl : l = n := by omega
              have hz0p : f p c ≠ 0 := by rw [← Hp.out]; exact pivR_hit hle (by rw [Hp.out]; exact hpn)
              have HST := Lib.hid (HP.out.step (G := ratI E3) hpb.1 hpn hcm hz0p (fun i hi => done_step (by rw [swp_ratI, HS.out]; exact HMID.out.done i hi hi)))
              clear hz0p
              have hes := Lib.hid (ech_some (f := F) (n := l) (c := c) (p := p) (by rw [Hf.out, Hpv.out, Hr.out, Hp.out]) hpn)
              rw [Hf.out, Hpv.out, Hr.out] at hes
              have hcl := HB.out
              have hrl : r ≤ 1000000 := by omega
              have hgpl := hrow.lt
              go_wp2_with (at_builtin; refine wpList_append_row _ rfl (.tmp 68) (.tmp 70) 34 rfl 3 i0 .i64 Try.underlying34 hi hz0 hz1 (by rw [hz2]; omega) gp cp pv r Hr.out rfl (hrow.keep ((Chg.refl [] wr).alloc _) (by simp)) [c] 1 rfl ⟨wr.heap.size, 0, none⟩ 1 rfl (cells_alloc wr _ 3 .i64 [c] (by simp [vals]) (by simp)) (by omega) ?_)
              intro g9 cp9 w9 hr9 hg9 hc9
              have c10 : Chg [] wr (wr.alloc (.cells #[.int .i64 c] 3)) := (Chg.refl _ _).alloc _
              have hch9 := Lib.hid ((hch.then c10).trans hc9 (fun x hx => .inr (by simp at hx; omega)))
              have hM7 := (hM.keep0 c10).regs (hs := [gp, g9]) (fun x hx => by
                simp at hx
                rcases hx with rfl | rfl
                · exact .inl (by simp)
                · rcases hg9 with h | h
                  · exact .inl (by rw [h]; simp)
                  · exact .inr (by rw [World.size_alloc]; exact h))
              have hM8 := hM7.keepg (hs := [gp]) hc9 (by simp; omega) (fun x hx => by simp at hx; subst hx; simp)
              have hM9 := Lib.hid (hM8.regs (hs := [g9]) (fun x hx => by simp at hx; subst hx; exact .inl (by simp)))
              have hg10 : w.heap.size ≤ g9 := by
                rcases hg9 with h | h
                · omega
                · have := hch.size
                  omega
              have HR9 := Lib.hid hr9
              clear hr9 hM7 hM8 hM hrow hc9 hch c10
              go_wp2_with fail
              go_roundw
              case rel => exact ⟨c + 1, g9, cp9, M3, E3, by omega, by go_num, by rw [hes.out]; simp [Hr.out], by rw [hes.out]; exact HR9.out, hg10, HV3.out, by rw [hes.out]; exact HST.out, hM9.out, hch9.out⟩
              case measure => simp [intOf]; omega
      · rw [if_neg hpn]
        have hes := Lib.hid (ech_none (f := F) (n := n) (c := c) (by rw [Hf.out, Hpv.out, Hr.out, Hp.out]; exact hpn))
        go_wp2_with fail
        go_roundw
        case rel => exact ⟨c + 1, gp, cp, M1, E1, by omega, by go_num, by rw [hes.out, Hpv.out, Hr.out], by rw [hes.out, Hpv.out]; exact hrow, hgp, HV.out.mono (KK_le k (by omega)), by rw [hes.out, Hf.out]; exact HP.out, hM, hch⟩
        case measure => simp [intOf]; omega
    · obtain rfl : c = width := by omega
      go_wp2_with fail
      go_ret
      exact ⟨gp, cp, M1, E1, (by rw [Hpv.out, Hr.out]; try rfl), by rw [Hpv.out]; exact hrow, hgp, HV.out, by rw [Hf.out]; exact HP.out, hM.regs (by simp), hch⟩

end Go.Proofs.Ytpaochhaenehmaa
