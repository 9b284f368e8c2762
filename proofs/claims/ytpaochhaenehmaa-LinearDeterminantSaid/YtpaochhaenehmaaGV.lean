/-
  Several parts put together: LX5, LX6, LX7.
-/
import Derived.Test.YtpaochhaenehmaaLX4
import Derived.Test.YtpaochhaenehmaaGJ
import Derived.Test.YtpaochhaenehmaaGP
/- Part LX5. -/

namespace Go.Proofs.Ytpaochhaenehmaa
open Go.RowKit Nd
theorem den_empty {x : Q3} (h : x.den.toList.isEmpty = true) : (ratOf x).den = 1 := by
  have h1 : x.den = ⟨#[]⟩ := (empty_iff x.den).1 h
  unfold ratOf
  split
  · have : dn x = 1 := by unfold dn; rw [h1]; rfl
    rw [this, sq_int]; exact Rat.den_intCast _
  · rfl
theorem den_bad {x : Q3} (h : okB x = false) : (ratOf x).den = 1 := by unfold ratOf; rw [h]; rfl
theorem den_good {x : Q3} (h : okB x = true) (h2 : x.den.toList.isEmpty = false) : val x.den = (ratOf x).den ∧ Is x.den (ratOf x).den := by
  have e := (ok_enc h).den
  split at e
  · have : x.den = ⟨#[]⟩ := Is_zero.1 e
    rw [(empty_iff x.den).2 this] at h2; cases h2
  · exact ⟨Is_val e, e⟩
theorem lcm_dvd {N d : Nat} (hd : 0 < d) : N ∣ N * (d / Nat.gcd N d) ∧ d ∣ N * (d / Nat.gcd N d) ∧ 0 < d / Nat.gcd N d := by
  have hg : Nat.gcd N d ∣ d := Nat.gcd_dvd_right _ _
  have hg2 : Nat.gcd N d ∣ N := Nat.gcd_dvd_left _ _
  have hp : 0 < Nat.gcd N d := Nat.gcd_pos_of_pos_right _ hd
  refine ⟨Nat.dvd_mul_right _ _, ?_, Nat.div_pos (Nat.le_of_dvd hd hg) hp⟩
  obtain ⟨c, hc⟩ := hg2
  have h1 : d = Nat.gcd N d * (d / Nat.gcd N d) := (Nat.mul_div_cancel' hg).symm
  generalize d / Nat.gcd N d = e at h1 ⊢
  generalize Nat.gcd N d = g at h1 hc
  rw [h1, hc]
  exact ⟨c, by rw [Nat.mul_assoc, Nat.mul_assoc, Nat.mul_comm c e]⟩

set_option maxRecDepth 20000 in
set_option maxHeartbeats 4000000 in
theorem commonDen_any (xs : List Q3) (m k : Nat) (A : Option Addr) (ca : Nat) (w : World) (hl : xs.length = m) (hf : ∀ j, j < m → fits (xs.getD j q0) k) (hk : 1 ≤ k) (hm : m ≤ 1000000) (hkm : 1 + m * k ≤ 34359738367) (hx : Rds w A xs) :
    Calls Try.prog 48 #[.slice A m ca] w fun e w' => ∃ (s : ByteArray) (N : Nat), e = .returned (.agg #[.bool false, .string s, .string ⟨#[]⟩]) ∧ Is s N ∧ 0 < N ∧ N < 256 ^ (1 + m * k) ∧ (∀ j, j < m → (ratOf (xs.getD j q0)).den ∣ N) ∧ Chg [] w w' := by
  have HFT := Lib.hid hf
  clear hf
  have b1 := Blk3.alloc w (.bool false) (.string ⟨#[]⟩) (.string ⟨#[]⟩) 26
  have hch : Chg [] w (w.alloc (.cells #[.bool false, .string ⟨#[]⟩, .string ⟨#[]⟩] 26)) := (Chg.refl _ _).alloc _
  replace hx := hx.keep0 hch
  have i1s : Is ⟨#[1]⟩ 1 := Is_one.2 rfl
  go_enter Try.func48, Try.ntmps48
  go_wp2_with fail
  go_loopw [3, 11] (fun sv iv wr => ∃ (i : Nat) (s : ByteArray) (N : Nat), i ≤ m ∧ iv = .int .i64 i ∧ sv = .string s ∧ Is s N ∧ 0 < N ∧ N < 256 ^ (1 + i * k) ∧ (∀ j, j < i → (ratOf (xs.getD j q0)).den ∣ N) ∧ Rds wr A xs ∧ Blk3 wr w.heap.size (.bool false) (.string ⟨#[]⟩) (.string ⟨#[]⟩) ∧ Chg [] w wr) (fun _ iv _ => m - (intOf iv).toNat)
  case atStart => exact ⟨0, _, 1, Nat.zero_le _, rfl, rfl, i1s, by omega, by simp, fun j h => absurd h (by omega), hx, b1, hch⟩
  case round =>
    clear hx b1 hch i1s
    obtain ⟨i, s, N, hi, rfl, rfl, hs, hN, hNl, hdv, hx, b1, hch⟩ := hrel
    have HDV := Lib.hid hdv
    have HNL := Lib.hid hNl
    have hik : i * k ≤ m * k := Nat.mul_le_mul_right k hi
    have hsz : s.size ≤ 1 + i * k := Is_size hs _ hNl
    clear hdv hNl
    by_cases hlt : i < m
    · obtain ⟨ga, oa, rfl, hga⟩ := hx.form (by omega)
      have e1 := hx.el (j := i) (by omega)
      have hfi := HFT.out i hlt
      obtain ⟨x, HX⟩ := name_it (xs.getD i q0)
      rw [HX.out] at e1 hfi
      have x0 := e1.a
      have x1 := e1.b
      have x2 := e1.c
      have j1 : (0 : Int) ≤ (i : Int) := by omega
      have j2 : (i : Int) < (m : Int) := by omega
      have hf1 := hfi.1
      have hf2 := hfi.2
      have hkb : k ≤ m * k := Nat.le_mul_of_pos_left _ (by omega)
      have b2 := Blk3.alloc wr (.bool x.neg) (.string x.num) (.string x.den) 26
      have c2 : Chg [] wr (wr.alloc (.cells #[.bool x.neg, .string x.num, .string x.den] 26)) := (Chg.refl _ _).alloc _
      have hnl2 : 256 ^ (1 + i * k) ≤ 256 ^ (1 + (i + 1) * k) := Nat.pow_le_pow_right (by omega) (by rw [Nat.add_mul]; omega)
      have HNL2 := Lib.hid hnl2
      clear e1 hnl2
      cases hem : x.den.toList.isEmpty
      · have HEM := Lib.hid hem
        go_wp2_with fail
        refine (Valid_any x _ (by omega) (by omega)).mono ?_
        rintro e w1 ⟨rfl, c1⟩
        replace b2 := b2.keep c1 (by simp)
        replace b1 := b1.keep (c2.then c1) (by simp)
        replace hx := hx.keep0 (c2.then c1)
        replace hch := hch.then (c2.then c1)
        clear c1 c2 x0 x1 x2
        cases hok : okB x
        · have HOK := Lib.hid hok
          clear hok
          have HD2 : Hid (∀ j, j < i + 1 → (ratOf (xs.getD j q0)).den ∣ N) := Lib.hid (all_succ HDV.out (by rw [HX.out, den_bad HOK.out]; exact Nat.one_dvd _))
          go_wp2_with fail
          go_roundw
          case rel => exact ⟨i + 1, s, N, by omega, by go_num, rfl, hs, hN, Nat.lt_of_lt_of_le HNL.out HNL2.out, HD2.out, hx, b1, hch⟩
          case measure => simp [intOf]; omega
        · have hdg := den_good hok HEM.out
          have HOK := Lib.hid hok
          clear hok hem
          obtain ⟨d, HD⟩ := name_it (ratOf x).den
          rw [HD.out] at hdg
          have hd0 : 0 < d := by rw [← HD.out]; exact (ratOf x).den_pos
          have hdl : d < 256 ^ k := by rw [← hdg.1]; exact Nat.lt_of_lt_of_le (val_lt _) (Nat.pow_le_pow_right (by omega) hf2)
          have hvd := Lib.hid hdg.1
          clear hdg
          have b2c0 := b2.c0
          have b2c1 := b2.c1
          have b2c2 := b2.c2
          have b2f0 := b2.f0
          have b2f1 := b2.f1
          have b2f2 := b2.f2
          have b2l := b2.lt
          go_wp2_with fail
          clear b2c0 b2f0 b2c1 b2f1 b2c2 b2f2 b2l
          obtain ⟨w8, HW8⟩ := name_it w1
          rw [HW8.out] at b1 b2 hx hch ⊢
          replace b1 := b1.keep ((Chg.refl [] _).drew) (by simp)
          replace b2 := b2.keep ((Chg.refl [] _).drew) (by simp)
          try replace hx := hx.keep0 ((Chg.refl [] _).drew)
          replace hch := hch.drew
          go_region_held3 (fun w' => w'.cell? ⟨wr.heap.size, 0, none⟩ = some (.bool x.neg) ∧ w'.cell? ⟨wr.heap.size, 1, none⟩ = some (.string x.num) ∧ w'.cell? ⟨wr.heap.size, 2, none⟩ = some (.string x.den)) (first | exact ⟨b2.c0, b2.c1, b2.c2⟩ | exact ⟨by simp [go_sem, b2.c0], by simp [go_sem, b2.c1], by simp [go_sem, b2.c2]⟩) (first
              | (go_at_call 74
                 (with_reducible refine (GCD_any s x.den _ (by omega) (by omega)).mono ?_)
                 rintro e w1 ⟨g, rfl, hg, c1⟩
                 replace b1 := b1.keep c1 (by simp)
                 replace b2 := b2.keep c1 (by simp)
                 try replace hx := hx.keep0 c1
                 replace hch := hch.then c1
                 rw [Is_val hs, hvd.out] at hg
                 clear c1)
              | (go_at_call 73
                 (with_reducible refine (Divide_any x.den g _ (by omega) (by have := Is_size hg k (Nat.lt_of_le_of_lt (Nat.gcd_le_right _ hd0) hdl); omega) (by rw [Is_val hg]; have := Nat.gcd_pos_of_pos_right N hd0; omega)).mono ?_)
                 rintro e w1 ⟨qq, rr, rfl, hq, _, c1⟩
                 replace b1 := b1.keep c1 (by simp)
                 replace b2 := b2.keep c1 (by simp)
                 try replace hx := hx.keep0 c1
                 replace hch := hch.then c1
                 rw [hvd.out, Is_val hg] at hq
                 clear c1))
          all_goals
            have hql : d / Nat.gcd N d < 256 ^ k := Nat.lt_of_le_of_lt (Nat.div_le_self _ _) hdl
            have zq := Is_size hq k hql
            go_wp2_with fail
            refine (multiply_any s qq _ (by omega) (by omega)).mono ?_
            rintro e w5 ⟨s2, rfl, hs2, c1⟩
            rw [Is_val hs, Is_val hq] at hs2
            replace b1 := b1.keep c1 (by simp)
            replace hx := hx.keep0 c1
            replace hch := hch.then c1
            have hld := lcm_dvd (N := N) hd0
            have HD2 : Hid (∀ j, j < i + 1 → (ratOf (xs.getD j q0)).den ∣ N * (d / Nat.gcd N d)) := Lib.hid (all_succ (fun j hj => Nat.dvd_trans (HDV.out j hj) hld.1) (by rw [HX.out, HD.out]; exact hld.2.1))
            have HN2 : Hid (0 < N * (d / Nat.gcd N d)) := Lib.hid (Nat.mul_pos hN hld.2.2)
            have HL2 : Hid (N * (d / Nat.gcd N d) < 256 ^ (1 + (i + 1) * k)) := by
              show _ < _
              rw [show 1 + (i + 1) * k = (1 + i * k) + k by rw [Nat.add_mul]; omega]
              exact mul_lt_pow HNL.out hql
            clear hld hql hq hg c1
            go_wp2_with fail
            go_roundw
            case rel => exact ⟨i + 1, s2, _, by omega, by go_num, rfl, hs2, HN2.out, HL2.out, HD2.out, hx, b1, hch⟩
            case measure => simp [intOf]; omega
      · have HEM := Lib.hid hem
        have HD2 : Hid (∀ j, j < i + 1 → (ratOf (xs.getD j q0)).den ∣ N) := Lib.hid (all_succ HDV.out (by rw [HX.out, den_empty HEM.out]; exact Nat.one_dvd _))
        go_wp2_with fail
        replace b1 := b1.keep c2 (by simp)
        replace hx := hx.keep0 c2
        replace hch := hch.then c2
        go_roundw
        case rel => exact ⟨i + 1, s, N, by omega, by go_num, rfl, hs, hN, Nat.lt_of_lt_of_le HNL.out HNL2.out, HD2.out, hx, b1, hch⟩
        case measure => simp [intOf]; omega
    · obtain rfl : i = m := by omega
      have b1c0 := b1.c0
      have b1c1 := b1.c1
      have b1c2 := b1.c2
      have b1f0 := b1.f0
      have b1f1 := b1.f1
      have b1f2 := b1.f2
      have b1l := b1.lt
      go_wp2_with fail
      have S := b1.store (.bool false) (.string s) (.string ⟨#[]⟩)
      exact bodyPost_ret (v := .agg #[.bool false, .string s, .string ⟨#[]⟩]) (by simp [results, Try.results48, go_sem, S.c0, S.c1, S.c2]) rfl ⟨s, N, rfl, hs, hN, HNL.out, HDV.out, hch.store3 (.inr (Nat.le_refl _)) _ _ _⟩

end Go.Proofs.Ytpaochhaenehmaa

/- Part LX6. -/

namespace Go.Proofs.Ytpaochhaenehmaa
open Go.RowKit Nd
/-- A matrix of the program's own whose row i, of length m, lies open in block h. -/
structure MutO (w : World) (gs : List Nat) (g cap : Nat) (M : List (List Q3)) (i h m : Nat) : Prop where
  ne : h ≠ g
  off : h ∉ gs
  il : i < M.length
  ex : ∃ hs : List Value, hs.length = M.length ∧ Hdr w g cap hs ∧ hs.getD i (.bool false) = .slice (some ⟨h, 0, none⟩) m m ∧ ∀ r, r < M.length → r ≠ i → Slot w (g :: h :: gs) (hs.getD r (.bool false)) (M.getD r [])
section
variable {w w' : World} {gs : List Nat} {g cap : Nat} {M : List (List Q3)} {i h m : Nat}
theorem Mut.openRow (hM : Mut w (h :: gs) g cap M) (hi : i < M.length) (hne : h ≠ g) (hoff : h ∉ gs) (v : Value) (hv : v = .slice (some ⟨h, 0, none⟩) m m) : MutO (w.setCell ⟨g, i, none⟩ v) gs g cap M i h m := by
  obtain ⟨hs, e, h1, h2⟩ := hM.ex
  have hc : Chg [g] w (w.setCell ⟨g, i, none⟩ v) := (Chg.refl [g] w).setCell (.inl (by simp)) _
  refine ⟨hne, hoff, hi, hs.set i v, by simp [e], h1.store i v, ?_, fun r hr hri => ?_⟩
  · rw [getD_setM hs (.bool false) v (by omega), if_pos rfl, hv]
  · rw [getD_setM hs (.bool false) v (by omega), if_neg hri]
    exact (h2 r hr).keep hc (fun x hx => by simp at hx; subst hx; simp)
theorem MutO.keep0 (H : MutO w gs g cap M i h m) (hc : Chg [] w w') : MutO w' gs g cap M i h m := by
  obtain ⟨hs, e, h1, h2, h3⟩ := H.ex
  exact ⟨H.ne, H.off, H.il, hs, e, h1.keep hc (by simp), h2, fun r hr hri => (h3 r hr hri).keep hc (fun _ h => by cases h)⟩
theorem MutO.keeph (H : MutO w gs g cap M i h m) (hc : Chg [h] w w') : MutO w' gs g cap M i h m := by
  obtain ⟨hs, e, h1, h2, h3⟩ := H.ex
  exact ⟨H.ne, H.off, H.il, hs, e, h1.keep hc (by simpa using Ne.symm H.ne), h2, fun r hr hri => (h3 r hr hri).keep hc (fun x hx => by simp at hx; subst hx; simp)⟩
theorem MutO.lt (H : MutO w gs g cap M i h m) : g < w.heap.size := by obtain ⟨hs, _, h1, _⟩ := H.ex; exact h1.lt
theorem MutO.cell (H : MutO w gs g cap M i h m) : w.cell? ⟨g, i, none⟩ = some (.slice (some ⟨h, 0, none⟩) m m) := by
  obtain ⟨hs, e, h1, h2, _⟩ := H.ex
  rw [h1.cell (by have := H.il; omega), h2]
theorem MutO.shut (H : MutO w gs g cap M i h m) {zs : List Q3} (hz : Rds w (some ⟨h, 0, none⟩) zs) (hl : zs.length = m) (hm : m ≤ 9223372036854775807) : Mut w gs g cap (M.set i zs) := by
  obtain ⟨hs, e, h1, h2, h3⟩ := H.ex
  have hi := H.il
  refine ⟨hs, by rw [List.length_set]; exact e, h1, fun r hr => ?_⟩
  rw [List.length_set] at hr
  rw [getD_setM M [] zs hi]
  by_cases hri : r = i
  · rw [if_pos hri, hri, h2]
    refine ⟨_, m, by rw [hl], by omega, hm, hz, fun _ a ha hmem => ?_⟩
    cases ha
    rcases List.mem_cons.1 hmem with h5 | h5
    · exact H.ne h5
    · exact H.off h5
  · rw [if_neg hri]
    obtain ⟨B, c, e2, a, b, d, f⟩ := (h3 r hr hri).ex
    refine ⟨B, c, e2, a, b, d, fun hl2 a2 ha hmem => f hl2 a2 ha ?_⟩
    rcases List.mem_cons.1 hmem with h5 | h5
    · rw [h5]; exact List.mem_cons_self ..
    · exact List.mem_cons_of_mem _ (List.mem_cons_of_mem _ h5)
end
/-- The product of the first i numbers. -/
def prodT (t : Nat → Nat) : Nat → Rat
  | 0 => 1
  | i + 1 => prodT t i * ((t i : Int) : Rat)
theorem prodT_congr {t u : Nat → Nat} : ∀ i, (∀ j, j < i → t j = u j) → prodT t i = prodT u i
  | 0, _ => rfl
  | i + 1, h => by unfold prodT; rw [prodT_congr i (fun j hj => h j (by omega)), h i (by omega)]
/-- A number times a multiple of its denominator is an integer. -/
theorem int_of_den {q : Rat} {N : Nat} (h : q.den ∣ N) : q * ((N : Int) : Rat) = ((q.num * ((N / q.den : Nat) : Int) : Int) : Rat) := by
  obtain ⟨c, rfl⟩ := h
  rw [Nat.mul_div_cancel_left _ q.den_pos]
  have hd : ((q.den : Int) : Rat) ≠ 0 := by
    intro hc; have := Rat.intCast_inj.1 (hc.trans Rat.intCast_zero.symm); have := q.den_pos; omega
  have e : q * ((q.den : Int) : Rat) = ((q.num : Int) : Rat) := by
    have h1 := Rat.num_divInt_den q
    rw [Rat.divInt_eq_div] at h1
    have h2 : ((q.num : Int) : Rat) / ((q.den : Int) : Rat) * ((q.den : Int) : Rat) = ((q.num : Int) : Rat) := by rw [Rat.div_def, Rat.mul_assoc, Rat.inv_mul_cancel _ hd, Rat.mul_one]
    rwa [h1] at h2
  rw [show ((q.den * c : Nat) : Int) = (q.den : Int) * (c : Int) by simp, Rat.intCast_mul, ← Rat.mul_assoc, e, Rat.intCast_mul]

theorem bd_int8 {n : Int} (h1 : -9223372036854775808 ≤ n) (h2 : n ≤ 9223372036854775807) : Bd 8 (n : Rat) := by
  refine ⟨?_, ?_⟩
  · rw [Rat.num_intCast]
    have : (256 : Nat) ^ 8 = 18446744073709551616 := by decide
    omega
  · rw [Rat.den_intCast]; decide
theorem IntV (n : Int) (w : World) (h1 : -9223372036854775808 ≤ n) (h2 : n ≤ 9223372036854775807) :
    Calls Try.prog 22 #[.int .i64 n] w fun e w' => ∃ z, e = .returned (.agg #[.bool z.neg, .string z.num, .string z.den]) ∧ Val z (n : Rat) 8 ∧ Chg [] w w' := by
  refine (Int_any n w h1 h2).mono ?_
  rintro e w1 ⟨z, rfl, hz, c1⟩
  exact ⟨z, rfl, ⟨hz, bd_int8 h1 h2⟩, c1⟩
theorem commonDenN (xs : List Q3) (m k : Nat) (A : Option Addr) (ca : Nat) (w : World) (hl : xs.length = m) (hf : ∀ j, j < m → fits (xs.getD j q0) k) (hk : 1 ≤ k) (hm : m ≤ 1000000) (hkm : 1 + m * k ≤ 34359738367) (hx : Rds w A xs) :
    Calls Try.prog 48 #[.slice A m ca] w fun e w' => ∃ (F : Q3) (N : Nat), e = .returned (.agg #[.bool F.neg, .string F.num, .string F.den]) ∧ Val F ((N : Int) : Rat) (1 + m * k) ∧ 0 < N ∧ (∀ j, j < m → (ratOf (xs.getD j q0)).den ∣ N) ∧ Chg [] w w' := by
  refine (commonDen_any xs m k A ca w hl hf hk hm hkm hx).mono ?_
  rintro e w1 ⟨s, N, rfl, h1, h2, h3, h4, c1⟩
  exact ⟨⟨false, s, ⟨#[]⟩⟩, N, rfl, val_nat h1 h3 (by omega), h2, h4, c1⟩

set_option maxRecDepth 20000 in
set_option maxHeartbeats 8000000 in
theorem integral_any (M : List (List Q3)) (n m k : Nat) (A : Option Addr) (cap : Nat) (w : World) (hl : M.length = n) (hrow : ∀ i, i < n → (M.getD i []).length = m) (hfit : ∀ i, i < n → ∀ j, j < m → fits ((M.getD i []).getD j q0) k) (hk : 1 ≤ k) (hn : n ≤ 1000000) (hm : m ≤ 1000000) (hb : 8 + (n + 1) * (1 + m * k) ≤ 4294967296) (hk2 : k ≤ 4294967296) (hx : Mtx w A M) :
    Calls Try.prog 24 #[.slice A n cap] w fun e w' => ∃ (g : Nat) (M' : List (List Q3)) (E : Nat → Nat → Int) (t : Nat → Nat) (z : Q3), e = .returned (.tuple #[.slice (some ⟨g, 0, none⟩) n n, .agg #[.bool z.neg, .string z.num, .string z.den]]) ∧ w.heap.size ≤ g ∧ Mut w' [] g n M' ∧ Vals M' (ratI E) n m (k + (1 + m * k)) ∧ (∀ i, i < n → 0 < t i ∧ ∀ j, j < m → ratI E i j = ((t i : Int) : Rat) * ratOf ((M.getD i []).getD j q0)) ∧ Val z (prodT t n) (8 + n * (1 + m * k)) ∧ Chg [] w w' := by
  have HROW := Lib.hid hrow
  have HFIT := Lib.hid hfit
  have HL := Lib.hid hl
  clear hrow hfit hl
  obtain ⟨K1, HK1⟩ := name_it (1 + m * k)
  rw [HK1.out] at hb ⊢
  have hK1b : K1 ≤ (n + 1) * K1 := Nat.le_mul_of_pos_left _ (by omega)
  have b1 := Blk3.alloc w (.bool false) (.string ⟨#[]⟩) (.string ⟨#[]⟩) 26
  have hch : Chg [] w (w.alloc (.cells #[.bool false, .string ⟨#[]⟩, .string ⟨#[]⟩] 26)) := (Chg.refl _ _).alloc _
  have HX0 := Lib.hid hx
  clear hx
  go_enter Try.func24, Try.ntmps24
  go_wp2_with (at_make; refine wpList_makeM _ rfl (.tmp 12) (.tmp 12) rfl _ _ n rfl rfl rfl rfl hn [w.heap.size] ?_)
  intro w1 hM c1
  obtain ⟨g, HG⟩ := name_it (w.heap.size + 1)
  rw [HG.out] at hM ⊢
  have hgw : w.heap.size < g := by have := HG.out; omega
  replace b1 := b1.keep c1 (by simp)
  replace hch := hch.then c1
  clear c1
  go_wp2_with fail
  refine (IntV 1 _ (by omega) (by omega)).mono ?_
  rintro e w2 ⟨z, rfl, hz, c1⟩
  replace b1 := b1.keep c1 (by simp)
  try replace hM := hM.keep0 c1
  replace hch := hch.then c1
  clear c1
  have hgM := hM.lt
  have hM := hM.regs (hs := [w2.heap.size, w.heap.size]) (fun x hx => by
    rcases List.mem_cons.1 hx with rfl | h
    · exact .inr (Nat.le_refl _)
    · exact .inl h)
  have b2 := Blk3.alloc w2 (.bool z.neg) (.string z.num) (.string z.den) 26
  replace b1 := b1.keep ((Chg.refl [] _).alloc (.cells #[.bool z.neg, .string z.num, .string z.den] 26)) (by simp)
  replace hch := hch.then ((Chg.refl [] _).alloc (.cells #[.bool z.neg, .string z.num, .string z.den] 26))
  obtain ⟨gb2, Gb2⟩ := name_it w2.heap.size
  rw [Gb2.out] at b2
  have hgb2 := Gb2.out
  obtain ⟨wb2, HWb2⟩ := name_it (w2.alloc (.cells #[.bool z.neg, .string z.num, .string z.den] 26))
  rw [HWb2.out] at b1 b2 hch
  replace hM := hM.keep0 ((Chg.refl [] w2).alloc (.cells #[.bool z.neg, .string z.num, .string z.den] 26))
  rw [HWb2.out] at hM
  rw [Gb2.out] at hM hgM
  have hgb : w.heap.size < gb2 := by omega
  have b1c0 := b1.c0
  have b1c1 := b1.c1
  have b1c2 := b1.c2
  have b1f0 := b1.f0
  have b1f1 := b1.f1
  have b1f2 := b1.f2
  have b1l := b1.lt
  have b2c0 := b2.c0
  have b2c1 := b2.c1
  have b2c2 := b2.c2
  have b2f0 := b2.f0
  have b2f1 := b2.f1
  have b2f2 := b2.f2
  have b2l := b2.lt
  rw [← HWb2.out] at b1c0 b1f0 b1c1 b1f1 b1c2 b1f2 b2c0 b2f0 b2c1 b2f1 b2c2 b2f2 b1l b2l
  go_wp2_with fail
  clear b1c0 b1f0 b1c1 b1f1 b1c2 b1f2 b1l b2c0 b2f0 b2c1 b2f1 b2c2 b2f2 b2l
  rw [HWb2.out]
  go_loopw [17] (fun iv wr => ∃ (i : Nat) (M' : List (List Q3)) (E : Nat → Nat → Int) (t : Nat → Nat) (z : Q3), i ≤ n ∧ iv = .int .i64 i ∧ M'.length = n ∧ Mut wr [gb2, w.heap.size] g n M' ∧ (∀ r, r < i → Row1 (M'.getD r []) (ratI E r) m (k + K1) ∧ 0 < t r ∧ ∀ j, j < m → ratI E r j = ((t r : Int) : Rat) * ratOf ((M.getD r []).getD j q0)) ∧ Val z (prodT t i) (8 + i * K1) ∧ Blk3 wr w.heap.size (.bool false) (.string ⟨#[]⟩) (.string ⟨#[]⟩) ∧ Blk3 wr gb2 (.bool z.neg) (.string z.num) (.string z.den) ∧ Chg [] w wr) (fun iv _ => n - (intOf iv).toNat)
  case atStart => exact ⟨0, _, fun _ _ => 0, fun _ => 0, z, Nat.zero_le _, rfl, by simp, hM, fun r h => absurd h (by omega), by rw [Nat.zero_mul]; simpa [prodT] using hz, b1, b2, hch⟩
  case round =>
    clear hM b1 b2 hch hz
    obtain ⟨i, M', E, t, z, hi, rfl, hlM, hM, hok, hz, b1, b2, hch⟩ := hrel
    have HOK := Lib.hid hok
    clear hok
    by_cases hlt : i < n
    · have hx := HX0.out.keep0 hch
      obtain ⟨ga, oa, rfl, hga⟩ := HX0.out.form (by rw [HL.out]; omega)
      obtain ⟨Br, cr, c0, hc1, hc2, hr⟩ := hx.at_ (i := i) (by rw [HL.out]; exact hlt)
      obtain ⟨_, _, r0, _, _, hr0⟩ := HX0.out.at_ (i := i) (by rw [HL.out]; exact hlt)
      have e0 := (hch.cell (p := ⟨ga, oa + i, none⟩) hga (by simp)).trans r0
      rw [c0] at e0
      simp only [Option.some.injEq, Value.slice.injEq] at e0
      obtain ⟨rfl, _, rfl⟩ := e0
      have hrl := HROW.out i hlt
      have HF := Lib.hid (HFIT.out i hlt)
      obtain ⟨row, HRW⟩ := name_it (M.getD i [])
      rw [HRW.out] at c0 hr hr0 hrl HF
      rw [hrl] at c0
      have HR0 := Lib.hid hr0
      have hi1 : (0 : Int) ≤ (i : Int) := by omega
      have hi2 : (i : Int) < (n : Int) := by omega
      clear hr0 r0 hx
      have hiK : i * K1 + K1 ≤ (n + 1) * K1 := by
        have h1 : (i + 1) * K1 ≤ (n + 1) * K1 := Nat.mul_le_mul_right _ (by omega)
        rwa [Nat.add_mul, Nat.one_mul] at h1
      obtain ⟨TK, HTK⟩ := name_it (i * K1)
      rw [HTK.out] at hiK hz
      go_wp2_with fail
      refine (commonDenN row m k Br cr _ hrl HF.out hk hm (by rw [HK1.out]; omega) hr).mono ?_
      rintro e w3 ⟨F, N, rfl, hF, hN, hdv, c1⟩
      rw [HK1.out] at hF
      have HDV := Lib.hid hdv
      clear hr c0 hdv
      replace b1 := b1.keep c1 (by simp)
      replace b2 := b2.keep c1 (by simp)
      try replace hM := hM.keep0 c1
      replace hch := hch.then c1
      clear c1
      have hl2 := b2.lt
      have hlM3 := hM.lt
      have b3 := Blk3.alloc w3 (.bool F.neg) (.string F.num) (.string F.den) 26
      replace b1 := b1.keep ((Chg.refl [] _).alloc (.cells #[.bool F.neg, .string F.num, .string F.den] 26)) (by simp)
      replace b2 := b2.keep ((Chg.refl [] _).alloc (.cells #[.bool F.neg, .string F.num, .string F.den] 26)) (by simp)
      replace hch := hch.then ((Chg.refl [] _).alloc (.cells #[.bool F.neg, .string F.num, .string F.den] 26))
      obtain ⟨gb3, Gb3⟩ := name_it w3.heap.size
      rw [Gb3.out] at b3
      have hgb3 := Gb3.out
      obtain ⟨wb3, HWb3⟩ := name_it (w3.alloc (.cells #[.bool F.neg, .string F.num, .string F.den] 26))
      rw [HWb3.out] at b1 b2 b3 hch
      replace hM := hM.keep0 ((Chg.refl [] w3).alloc (.cells #[.bool F.neg, .string F.num, .string F.den] 26))
      rw [HWb3.out] at hM
      rw [Gb3.out] at hl2 hlM3
      have b1c0 := b1.c0
      have b1c1 := b1.c1
      have b1c2 := b1.c2
      have b1f0 := b1.f0
      have b1f1 := b1.f1
      have b1f2 := b1.f2
      have b1l := b1.lt
      have b2c0 := b2.c0
      have b2c1 := b2.c1
      have b2c2 := b2.c2
      have b2f0 := b2.f0
      have b2f1 := b2.f1
      have b2f2 := b2.f2
      have b2l := b2.lt
      have b3c0 := b3.c0
      have b3c1 := b3.c1
      have b3c2 := b3.c2
      have b3f0 := b3.f0
      have b3f1 := b3.f1
      have b3f2 := b3.f2
      have b3l := b3.lt
      rw [← HWb3.out] at b1c0 b1f0 b1c1 b1f1 b1c2 b1f2 b2c0 b2f0 b2c1 b2f1 b2c2 b2f2 b3c0 b3f0 b3c1 b3f1 b3c2 b3f2 b1l b2l b3l
      go_wp2_with fail
      clear b1c0 b1f0 b1c1 b1f1 b1c2 b1f2 b1l b2c0 b2f0 b2c1 b2f1 b2c2 b2f2 b2l b3c0 b3f0 b3c1 b3f1 b3c2 b3f2 b3l
      refine (MultiplyN z F (prodT t i) ((N : Int) : Rat) (8 + TK) K1 _ hz.num hF.num (by omega)).mono ?_
      rintro e w4 ⟨z2, rfl, hz2, c1⟩
      rw [HWb3.out] at c1
      replace b1 := b1.keep c1 (by simp)
      replace b2 := b2.keep c1 (by simp)
      replace b3 := b3.keep c1 (by simp)
      try replace hM := hM.keep0 c1
      replace hch := hch.then c1
      clear c1 hz
      have b1c0 := b1.c0
      have b1c1 := b1.c1
      have b1c2 := b1.c2
      have b1f0 := b1.f0
      have b1f1 := b1.f1
      have b1f2 := b1.f2
      have b1l := b1.lt
      have b2c0 := b2.c0
      have b2c1 := b2.c1
      have b2c2 := b2.c2
      have b2f0 := b2.f0
      have b2f1 := b2.f1
      have b2f2 := b2.f2
      have b2l := b2.lt
      have b3c0 := b3.c0
      have b3c1 := b3.c1
      have b3c2 := b3.c2
      have b3f0 := b3.f0
      have b3f1 := b3.f1
      have b3f2 := b3.f2
      have b3l := b3.lt
      go_wp2_with (at_make; refine wpList_make3 _ rfl (.tmp 30) (.tmp 30) rfl _ _ m rfl rfl rfl rfl hm ?_)
      intro w5 hz5 c5
      clear b1c0 b1f0 b1c1 b1f1 b1c2 b1f2 b1l b2c0 b2f0 b2c1 b2f1 b2c2 b2f2 b2l b3c0 b3f0 b3c1 b3f1 b3c2 b3f2 b3l
      have hl4 := hM.lt
      have hl5 := b2.lt
      have hl6 := b3.lt
      replace b1 := (b1.sto (h := gb2) (i := 0) (j := 1) (k := 2) (by omega) (.bool z2.neg) (.string z2.num) (.string z2.den)).keep c5 (by simp)
      replace b3 := (b3.sto (h := gb2) (i := 0) (j := 1) (k := 2) (by omega) (.bool z2.neg) (.string z2.num) (.string z2.den)).keep c5 (by simp)
      replace b2 := (b2.store (.bool z2.neg) (.string z2.num) (.string z2.den)).keep c5 (by simp)
      have c6 : Chg [gb2] w4 (((w4.setCell ⟨gb2, 0, none⟩ (.bool z2.neg)).setCell ⟨gb2, 1, none⟩ (.string z2.num)).setCell ⟨gb2, 2, none⟩ (.string z2.den)) := (Chg.refl [gb2] w4).store3o (.inl (by simp)) _ _ _
      have hsz6 : (((w4.setCell ⟨gb2, 0, none⟩ (.bool z2.neg)).setCell ⟨gb2, 1, none⟩ (.string z2.num)).setCell ⟨gb2, 2, none⟩ (.string z2.den)).heap.size = w4.heap.size := by simp
      have hM6 := hM.keepg c6 (by simp; omega) (fun x hx => by simp at hx; simp [hx])
      replace hch := (hch.store3o (g := gb2) (i := 0) (j := 1) (k := 2) (.inr (by omega)) (.bool z2.neg) (.string z2.num) (.string z2.den)).then c5
      obtain ⟨gi, Hgi⟩ := name_it w4.heap.size
      try rw [hsz6] at hz5
      try rw [hsz6]
      try rw [Hgi.out] at hz5
      try rw [Hgi.out]
      rw [Hgi.out] at hl4 hl5 hl6
      have hM7 := (hM6.regs (hs := gi :: [gb2, w.heap.size]) (fun x hx => by
        rcases List.mem_cons.1 hx with rfl | h
        · exact .inr (by rw [hsz6]; exact Nat.le_of_eq Hgi.out)
        · exact .inl h)).keep0 c5
      clear hM hM6 c6 c5 hsz6
      obtain ⟨B9, c9, d0, _, _, _, _⟩ := hM7.at_ (i := i) (by omega)
      have f0 := hM7.frozen i
      have HMO := Lib.hid (hM7.openRow (m := m) (i := i) (by omega) (by omega) (by simp; omega) _ rfl)
      have c7 : Chg [g] w5 (w5.setCell ⟨g, i, none⟩ (.slice (some ⟨gi, 0, none⟩) m m)) := (Chg.refl [g] w5).setCell (.inl (by simp)) _
      have hz7 := Lib.hid (hz5.keep c7 (by simp; omega))
      have b17 := b1.keep c7 (by simp; omega)
      have b27 := b2.keep c7 (by simp; omega)
      have b37 := b3.keep c7 (by simp; omega)
      have hch7 := hch.setCell (p := ⟨g, i, none⟩) (.inr (by show _ ≤ g; omega)) (.slice (some ⟨gi, 0, none⟩) m m)
      clear hM7 hz5 b1 b2 b3 hch c7
      go_wp2_with fail
      go_loopw [35] (fun jv wr => ∃ (j : Nat) (zs : List Q3) (e : Nat → Int), j ≤ m ∧ jv = .int .i64 j ∧ zs.length = m ∧ (∀ u, u < j → Val (zs.getD u q0) ((e u : Int) : Rat) (k + K1) ∧ ((e u : Int) : Rat) = ((N : Int) : Rat) * ratOf (row.getD u q0)) ∧ Nums wr gi m zs ∧ MutO wr [gb2, w.heap.size] g n M' i gi m ∧ Blk3 wr w.heap.size (.bool false) (.string ⟨#[]⟩) (.string ⟨#[]⟩) ∧ Blk3 wr gb2 (.bool z2.neg) (.string z2.num) (.string z2.den) ∧ Blk3 wr gb3 (.bool F.neg) (.string F.num) (.string F.den) ∧ Chg [] w wr) (fun jv _ => m - (intOf jv).toNat)
      case atStart => exact ⟨0, _, fun _ => 0, Nat.zero_le _, rfl, by simp, fun u h => absurd h (by omega), hz7.out, HMO.out, b17, b27, b37, hch7⟩
      case round =>
        clear hz7 HMO b17 b27 b37 hch7 d0 f0
        obtain ⟨j, zs, e, hj, rfl, hlz, hinv, hz, HO, b1, b2, b3, hch⟩ := hrel
        have HINV := Lib.hid hinv
        clear hinv
        by_cases hjm : j < m
        · obtain ⟨gr, orr, rfl, _⟩ := HR0.out.form (by omega)
          have e1 := (HR0.out.keep0 hch).el (j := j) (by omega)
          have hfx := HF.out j hjm
          have hdj := Lib.hid (int_of_den (HDV.out j hjm))
          obtain ⟨x, HX⟩ := name_it (row.getD j q0)
          rw [HX.out] at e1 hfx hdj
          have nx : Num x (ratOf x) k := ⟨rfl, hfx, hk⟩
          obtain ⟨q, HQ⟩ := name_it (ratOf x)
          rw [HQ.out] at nx hdj
          have x0 := e1.a
          have x1 := e1.b
          have x2 := e1.c
          have j1 : (0 : Int) ≤ (j : Int) := by omega
          have j2 : (j : Int) < (m : Int) := by omega
          have b4 := Blk3.alloc wr (.bool x.neg) (.string x.num) (.string x.den) 26
          have c8 : Chg [] wr (wr.alloc (.cells #[.bool x.neg, .string x.num, .string x.den] 26)).drew := ((Chg.refl _ _).alloc _).drew
          have hzl := hz.lt
          have h3l := b3.lt
          clear e1 hfx hj
          go_wp2_with fail
          replace b4 := b4.keep ((Chg.refl [] _).drew) (by simp)
          replace b1 := b1.keep c8 (by simp)
          replace b2 := b2.keep c8 (by simp)
          replace b3 := b3.keep c8 (by simp)
          replace hz := hz.keep c8 (by simp)
          replace HO := HO.keep0 c8
          replace hch := hch.then c8
          clear c8 x0 x1 x2
          obtain ⟨gx, Hgx⟩ := name_it wr.heap.size
          rw [Hgx.out] at b4 hzl h3l
          try rw [Hgx.out]
          go_region_held3 (fun w' => w'.cell? ⟨g, i, none⟩ = some (.slice (some ⟨gi, 0, none⟩) m m) ∧ w'.cell? ⟨gx, 0, none⟩ = some (.bool x.neg) ∧ w'.cell? ⟨gx, 1, none⟩ = some (.string x.num) ∧ w'.cell? ⟨gx, 2, none⟩ = some (.string x.den) ∧ w'.cell? ⟨gb3, 0, none⟩ = some (.bool F.neg) ∧ w'.cell? ⟨gb3, 1, none⟩ = some (.string F.num) ∧ w'.cell? ⟨gb3, 2, none⟩ = some (.string F.den)) (first | exact ⟨HO.cell, b4.c0, b4.c1, b4.c2, b3.c0, b3.c1, b3.c2⟩ | exact ⟨(HO.keeph ((Chg.refl [gi] _).store3o (.inl (by simp)) _ _ _)).cell, (b4.sto (by omega) _ _ _).c0, (b4.sto (by omega) _ _ _).c1, (b4.sto (by omega) _ _ _).c2, (b3.sto (by omega) _ _ _).c0, (b3.sto (by omega) _ _ _).c1, (b3.sto (by omega) _ _ _).c2⟩) (first
              | (go_at_call 18
                 (with_reducible refine (MultiplyN x F q ((N : Int) : Rat) k K1 _ nx hF.num (by omega)).mono ?_)
                 rintro e w9 ⟨y, rfl, hy, c1⟩
                 replace b1 := b1.keep c1 (by simp)
                 replace b2 := b2.keep c1 (by simp)
                 replace b3 := b3.keep c1 (by simp)
                 replace b4 := b4.keep c1 (by simp)
                 replace hz := hz.keep c1 (by simp)
                 replace HO := HO.keep0 c1
                 replace hch := hch.then c1
                 clear c1
                 obtain ⟨s0, s1, s2⟩ := hz.rds.zero_at (j := j) (by omega)
                 have s3 := hz.frozen (j * 3)
                 have s4 := hz.frozen (j * 3 + 1)
                 have s5 := hz.frozen (j * 3 + 2)))
          all_goals
            obtain ⟨ej, Hej⟩ := name_it (q.num * ((N / q.den : Nat) : Int))
            rw [hdj.out, Hej.out] at hy
            have hej : ((ej : Int) : Rat) = ((N : Int) : Rat) * ratOf (row.getD j q0) := by rw [HX.out, HQ.out, ← Hej.out, ← hdj.out, Rat.mul_comm]
            have HNX := Lib.hid (nums_set (P := fun u zz => Val zz (((if u = j then ej else e u) : Int) : Rat) (k + K1) ∧ (((if u = j then ej else e u) : Int) : Rat) = ((N : Int) : Rat) * ratOf (row.getD u q0)) (z := y) (by omega : j < zs.length) (fun u hu => by simp only [show u ≠ j by omega, if_false]; exact HINV.out u hu) (by simp only [if_true]; exact ⟨hy, hej⟩))
            clear hy hej
            have HOk := Lib.hid (HO.keeph ((Chg.refl [gi] _).store3o (g := gi) (i := j * 3) (j := j * 3 + 1) (k := j * 3 + 2) (.inl (by simp)) (.bool y.neg) (.string y.num) (.string y.den)))
            clear HO
            go_wp2_with fail
            go_roundw
            case rel => exact ⟨j + 1, zs.set j y, _, by omega, by go_num, by rw [List.length_set]; exact hlz, HNX.out, hz.store (by omega) y, HOk.out, b1.sto (by omega) _ _ _, b2.sto (by omega) _ _ _, b3.sto (by omega) _ _ _, hch.store3o (.inr (by omega)) _ _ _⟩
            case measure => simp [intOf]; omega
        · obtain rfl : j = m := by omega
          have hMn := Lib.hid (HO.shut hz.rds hlz (by omega))
          clear HO
          have HOK2 : Hid (∀ r, r < i + 1 → Row1 ((M'.set i zs).getD r []) (ratI (fun r => if r = i then e else E r) r) j (k + K1) ∧ 0 < (if r = i then N else t r) ∧ ∀ u, u < j → ratI (fun r => if r = i then e else E r) r u = (((if r = i then N else t r : Nat) : Int) : Rat) * ratOf ((M.getD r []).getD u q0)) := by
            show ∀ _, _
            intro r hr
            rw [getD_setM M' [] zs (by omega)]
            have er : ratI (fun r => if r = i then e else E r) i = fun u => ((e u : Int) : Rat) := by funext u; simp [ratI]
            have en : r ≠ i → ratI (fun r => if r = i then e else E r) r = ratI E r := by intro hr; funext u; simp [ratI, hr]
            by_cases hri : r = i
            · rw [hri, er, if_pos rfl, if_pos rfl, HRW.out]
              exact ⟨⟨hlz, fun u hu => (HINV.out u hu).1⟩, hN, fun u hu => (HINV.out u hu).2⟩
            · rw [en hri, if_neg hri, if_neg hri]
              exact HOK.out r (by omega)
          have HZ2 : Hid (Val z2 (prodT (fun r => if r = i then N else t r) (i + 1)) (8 + (i + 1) * K1)) := by
            show Val _ _ _
            have e9 : prodT (fun r => if r = i then N else t r) (i + 1) = prodT t i * ((N : Int) : Rat) := by
              show prodT _ i * (((if i = i then N else t i : Nat) : Int) : Rat) = _
              rw [if_pos rfl, prodT_congr (u := t) i (fun u hu => by simp only [show u ≠ i by omega, if_false])]
            rw [e9, Nat.add_mul, Nat.one_mul, HTK.out]
            exact hz2.mono (by omega)
          clear hz2 hz
          go_wp2_with fail
          go_roundw
          case rel => exact ⟨i + 1, M'.set i zs, (fun r => if r = i then e else E r), (fun r => if r = i then N else t r), z2, by omega, by go_num, by rw [List.length_set]; exact hlM, hMn.out, HOK2.out, HZ2.out, b1, b2, hch⟩
          case measure => simp [intOf]; omega
    · obtain rfl : i = n := by omega
      go_wp2_with fail
      have b1c0 := b1.c0
      have b1c1 := b1.c1
      have b1c2 := b1.c2
      have b1f0 := b1.f0
      have b1f1 := b1.f1
      have b1f2 := b1.f2
      have b1l := b1.lt
      have b2c0 := b2.c0
      have b2c1 := b2.c1
      have b2c2 := b2.c2
      have b2f0 := b2.f0
      have b2f1 := b2.f1
      have b2f2 := b2.f2
      have b2l := b2.lt
      go_region
      all_goals
        have S := b1.store (.bool z.neg) (.string z.num) (.string z.den)
        have hV : Vals M' (ratI E) i m (k + K1) := ⟨hlM, fun r hr => (HOK.out r hr).1.len, fun r hr => (HOK.out r hr).1.val⟩
        have hMz := ((hM.keepg ((Chg.refl [w.heap.size] _).store3o (i := 0) (j := 1) (k := 2) (g := w.heap.size) (.inl (by simp)) (.bool z.neg) (.string z.num) (.string z.den)) (by simp; omega) (fun x hx => by simp at hx; simp [hx])).regs (hs := []) (by simp)).keep0 ((Chg.refl [] _).drew)
        have HS := S.keep ((Chg.refl [] _).drew) (by simp)
        go_wp2_with fail
        exact bodyPost_ret (v := .tuple #[.slice (some ⟨g, 0, none⟩) i i, .agg #[.bool z.neg, .string z.num, .string z.den]]) (by simp [results, Try.results24, go_sem, S.c0, S.c1, S.c2]) rfl ⟨g, M', E, t, z, rfl, by omega, hMz, hV, fun r hr => (HOK.out r hr).2, hz, (hch.store3o (.inr (Nat.le_refl _)) _ _ _).drew⟩

end Go.Proofs.Ytpaochhaenehmaa

/- Part LX7. -/

namespace Go.Proofs.Ytpaochhaenehmaa
open Go.RowKit Nd
theorem Nums.empty (w : World) : Nums (w.alloc (.cells #[] 26)) w.heap.size 0 [] := by
  have := World.ownsRow_lit (base := 0) (e := 26) (size := 3) w #[] 0 (Nat.zero_le _) (by simp [maxLen]) (by simp)
  simpa [Nums, Own3, cq] using this

set_option maxRecDepth 20000 in
set_option maxHeartbeats 2000000 in
theorem clone_any (xs : List Q3) (m g o ca : Nat) (w : World) (hl : xs.length = m) (hm0 : 0 < m) (hm : m ≤ 1000000) (hx : Rds w (some ⟨g, o, none⟩) xs) :
    Calls Try.prog 62 #[.slice (some ⟨g, o, none⟩) m ca] w fun e w' => ∃ h c, e = .returned (.slice (some ⟨h, 0, none⟩) m c) ∧ w.heap.size ≤ h ∧ Nums w' h c xs ∧ Chg [] w w' := by
  have h0 := Nums.empty w
  have c0 : Chg [] w (w.alloc (.cells #[] 26)) := (Chg.refl _ _).alloc _
  replace hx := hx.keep0 c0
  have qT := Lib.run_eql_slice_nil (P := Try.prog) w 33 26 (some ⟨g, o, none⟩) m ca 0 0 Try.under3
  go_enter Try.func62, Try.ntmps62
  go_wp2_with (at_builtin; refine wpList_append3 _ rfl (.tmp 5) (.tmp 6) rfl (.slice (some ⟨w.heap.size, 0, none⟩) 0 0) [] rfl h0 (some ⟨g, o, none⟩) m ca xs rfl hl hx (by simp; omega) ?_)
  intro v w1 hv c1 hown
  go_wp2_with fail
  go_ret
  rcases Own3.form hv with ⟨_, h9⟩ | ⟨h, c, rfl, _, _, _, _⟩
  · subst h9; simp at hl; omega
  · have hh : w.heap.size ≤ h := by
      simp [Value.ownBlock] at hown
      omega
    rw [hl]
    exact ⟨h, c, rfl, hh, by unfold Nums; exact hv, c0.fresh (g := w.heap.size) (by simpa [Value.ownBlock] using c1) (Nat.le_refl _)⟩

set_option maxRecDepth 20000 in
set_option maxHeartbeats 4000000 in
theorem fractions_any (xs : List Q3) (p : Nat → Rat) (m k kd : Nat) (d : Q3) (D : Rat) (g o ca : Nat) (w : World) (hxs : Row1 xs p m k) (hd : Val d D kd) (hD : D ≠ 0) (hm0 : 0 < m) (hm : m ≤ 1000000) (hk : k + kd ≤ 34359738367) (hx : Rds w (some ⟨g, o, none⟩) xs) :
    Calls Try.prog 36 #[.slice (some ⟨g, o, none⟩) m ca, .agg #[.bool d.neg, .string d.num, .string d.den]] w fun e w' => ∃ h c zs, e = .returned (.slice (some ⟨h, 0, none⟩) m c) ∧ w.heap.size ≤ h ∧ Row1 zs (fun j => p j / D) m (k + kd) ∧ Nums w' h c zs ∧ Chg [] w w' := by
  have hlx := hxs.len
  have HXS := Lib.hid hxs
  clear hxs
  have HD := Lib.hid hD
  clear hD
  have b1 := Blk3.alloc w (.bool d.neg) (.string d.num) (.string d.den) 26
  have hch : Chg [] w (w.alloc (.cells #[.bool d.neg, .string d.num, .string d.den] 26)) := (Chg.refl _ _).alloc _
  have HX0 := Lib.hid hx
  have hgl := (hx.el (j := 0) (by omega)).lt
  have hx1 := hx.keep0 hch
  clear hx
  go_enter Try.func36, Try.ntmps36
  go_wp2_with fail
  refine (clone_any xs m g o ca _ hlx hm0 hm hx1).mono ?_
  rintro e w1 ⟨h, c, rfl, hh, hz, c1⟩
  have hh2 : w.heap.size < h := Nat.lt_of_lt_of_le b1.lt hh
  replace b1 := b1.keep c1 (by simp)
  replace hch := hch.then c1
  clear c1 hx1 hh
  go_wp2_with fail
  go_loopw [12] (fun jv wr => ∃ (j : Nat) (zs : List Q3), j ≤ m ∧ jv = .int .i64 j ∧ zs.length = m ∧ (∀ t, t < j → Val (zs.getD t q0) (p t / D) (k + kd)) ∧ Nums wr h c zs ∧ Blk3 wr w.heap.size (.bool d.neg) (.string d.num) (.string d.den) ∧ Chg [] w wr) (fun jv _ => m - (intOf jv).toNat)
  case atStart => exact ⟨0, _, Nat.zero_le _, rfl, hlx, fun t h => absurd h (by omega), hz, b1, hch⟩
  case round =>
    clear hz b1 hch
    obtain ⟨j, zs, hj, rfl, hlz, hval, hz, b1, hch⟩ := hrel
    have HVAL := Lib.hid hval
    clear hval
    by_cases hlt : j < m
    · have e1 := (HX0.out.keep0 hch).el (j := j) (by omega)
      have v1 := HXS.out.val j hlt
      obtain ⟨x, HX⟩ := name_it (xs.getD j q0)
      rw [HX.out] at e1 v1
      obtain ⟨q, HQ⟩ := name_it (p j)
      rw [HQ.out] at v1
      have x0 := e1.a
      have x1 := e1.b
      have x2 := e1.c
      have i1 : (0 : Int) ≤ (j : Int) := by omega
      have i2 : (j : Int) < (m : Int) := by omega
      have b2 := Blk3.alloc wr (.bool x.neg) (.string x.num) (.string x.den) 26
      have c2 : Chg [] wr (wr.alloc (.cells #[.bool x.neg, .string x.num, .string x.den] 26)) := (Chg.refl _ _).alloc _
      have hsz := hch.size
      have hfit := hz.fits
      clear hj e1
      have a0 := b1.c0
      have a1 := b1.c1
      have a2 := b1.c2
      have hlb := b1.lt
      have hcap1 : (m : Int) ≤ (c : Int) := by omega
      go_wp2_with fail
      refine (DivideN x d q D k kd _ v1.num hd.num HD.out hk).mono ?_
      rintro e w3 ⟨z, rfl, hzv, c1⟩
      rw [← HQ.out] at hzv
      have c4 := c2.then c1
      replace b1 := b1.keep c4 (by simp)
      replace hz := hz.keep c4 (by simp)
      replace hch := hch.then c4
      clear c1 c2 c4 x0 x1 x2 a0 a1 a2 b2
      have HNX := Lib.hid (nums_set (P := fun t z => Val z (p t / D) (k + kd)) (by omega : j < zs.length) HVAL.out hzv)
      obtain ⟨s0, s1, s2⟩ := hz.rds.zero_at (j := j) (by omega)
      have s3 := hz.frozen (j * 3)
      have s4 := hz.frozen (j * 3 + 1)
      have s5 := hz.frozen (j * 3 + 2)
      clear hzv
      go_wp2_with fail
      go_roundw
      case rel => exact ⟨j + 1, zs.set j z, by omega, by go_num, by rw [List.length_set]; exact hlz, HNX.out, hz.store (by omega) z, b1.sto (by omega) _ _ _, hch.store3o (.inr (by omega)) _ _ _⟩
      case measure => simp [intOf]; omega
    · obtain rfl : j = m := by omega
      go_wp2_with fail
      go_ret
      exact ⟨h, c, zs, rfl, by omega, ⟨hlz, HVAL.out⟩, hz, hch⟩

end Go.Proofs.Ytpaochhaenehmaa
