/-
  Lists of numbers: FewRats, Sum, the reference's Sum.
-/
import Derived.Test.YtdlejpaaoinokaaRL
import Derived.Test.YtdlejpaaoinokaaGQ
import Derived.IntWalk
namespace Go.Proofs.Ytdlejpaaoinokaa
open Go.RowKit Nd
theorem Rds.st3 {w : World} {g o k : Nat} {xs : List Q3} (h : Rds w (some ⟨g, o, none⟩) xs) (hk : g ≠ k) (x y z : Value) : Rds (((w.setCell ⟨k, 0, none⟩ x).setCell ⟨k, 1, none⟩ y).setCell ⟨k, 2, none⟩ z) (some ⟨g, o, none⟩) xs :=
  h.keep ((Chg.refl [k] w).store3 (.inl (by simp)) x y z) (by intro a ha; cases ha; simpa using hk)
theorem Blk3.st2 {w : World} {g k : Nat} {a b c : Value} (h : Blk3 w g a b c) (hk : g ≠ k) (x y z : Value) : Blk3 (((w.setCell ⟨k, 0, none⟩ x).setCell ⟨k, 1, none⟩ y).setCell ⟨k, 2, none⟩ z) g a b c :=
  h.keep ((Chg.refl [k] w).store3 (.inl (by simp)) x y z) (by simpa using hk)
theorem Val_zero : Val q0 0 1 := ⟨Enc_zero, ⟨by decide, by decide⟩⟩
/-- The sum of the numbers of a list. -/
def sumQ : List Q3 → Rat
  | [] => 0
  | x :: xs => ratOf x + sumQ xs
theorem sumQ_append : ∀ xs ys : List Q3, sumQ (xs ++ ys) = sumQ xs + sumQ ys
  | [], ys => by simp only [List.nil_append, sumQ]; grind
  | x :: xs, ys => by simp only [List.cons_append, sumQ, sumQ_append xs ys]; grind
theorem sumQ_split (xs : List Q3) (h : Nat) : sumQ (xs.take h) + sumQ (xs.drop h) = sumQ xs := by rw [← sumQ_append, List.take_append_drop]
theorem sumQ_snoc (xs : List Q3) {k : Nat} (h : k < xs.length) : sumQ (xs.take (k + 1)) = sumQ (xs.take k) + ratOf (xs.getD k q0) := by
  rw [take_snoc xs q0 k h, sumQ_append]; simp only [sumQ]; grind
theorem fewQ_fits {xs : List Q3} (h : fewQ xs = true) : ∀ x ∈ xs, fits x 24 := by
  intro x hx
  unfold fewQ at h
  rw [List.all_eq_true] at h
  have := h x hx
  unfold shortQ at this
  simp only [Bool.and_eq_true, decide_eq_true_eq] at this
  exact ⟨this.1, this.2⟩
theorem mem_getD {xs : List Q3} {j : Nat} (h : j < xs.length) : xs.getD j q0 ∈ xs := by
  rw [getD_lt _ _ h]; exact List.getElem_mem _

set_option maxRecDepth 20000 in
set_option maxHeartbeats 1000000 in
theorem fewRds_any (xs : List Q3) (A : Option Addr) (cap m : Nat) (w : World) (hm : m ≤ 1000) (hx : Rds w A xs) :
    Calls Try.prog 7 #[.slice A xs.length cap, .int .i64 m] w fun e w' => e = .returned (.bool (decide (xs.length ≤ m) && fewQ xs)) ∧ Chg [] w w' := by
  have hch : Chg [] w w := Chg.refl _ _
  obtain ⟨n, HN⟩ := name_it xs.length
  obtain ⟨r, HR⟩ := name_it (decide (xs.length ≤ m) && fewQ xs)
  rw [HR.out]
  rw [HN.out] at HR ⊢
  by_cases hlen : n ≤ m
  · have hR2 : Hid (r = fewQ xs) := by show _ = _; rw [← HR.out]; simp [hlen]
    have hgt : decide ((m : Int) < (n : Int)) = false := by simp; omega
    have hgn : decide (m < n) = false := by simp; omega
    clear HR
    go_enter Try.func7, Try.ntmps7
    go_wp2_with fail
    first | rw [hgt] | rw [hgn] | skip
    clear hgt hgn
    go_loopw [6, 13] (fun bv iv wr => ∃ k : Nat, k ≤ n ∧ iv = .int .i64 k ∧ fewQ (xs.take k) = true ∧ Rds wr A xs ∧ Chg [] w wr) (fun _ iv _ => n - (intOf iv).toNat)
    case atStart => exact ⟨0, Nat.zero_le _, rfl, by simp [fewQ], hx, hch⟩
    case round =>
      clear hx hch
      obtain ⟨k, hk, rfl, hf, hx, hch⟩ := hrel
      have HF := Lib.hid hf
      clear hf
      by_cases hlt : k < n
      · obtain ⟨g, o, rfl, hgl⟩ := hx.form (by rw [HN.out]; omega)
        obtain ⟨_, c0, c1, c2⟩ := hx.at_ (j := k) (by rw [HN.out]; exact hlt)
        obtain ⟨s, HS⟩ := name_it (xs.getD k q0)
        rw [HS.out] at c0 c1 c2
        have hmem : s ∈ xs := by rw [← HS.out]; exact mem_getD (by rw [HN.out]; exact hlt)
        have hst : fewQ (xs.take (k + 1)) = (fewQ (xs.take k) && shortQ s) := by
          rw [take_snoc xs q0 k (by rw [HN.out]; exact hlt), HS.out]; simp [fewQ]
        have HM := Lib.hid hmem
        have HST := Lib.hid hst
        clear hmem hst
        go_wp2_with fail
        refine (Few_any s _).mono ?_
        rintro e w1 ⟨rfl, c1⟩
        have c2 := ((Chg.refl [] _).alloc (.cells #[.bool s.neg, .string s.num, .string s.den] 38)).then c1
        replace hx := hx.keep0 c2
        replace hch := hch.then c2
        clear c0 c1 c2
        cases hsh : shortQ s
        · have hr : r = false := by
            rw [hR2.out]; unfold fewQ; rw [List.all_eq_false]
            exact ⟨s, HM.out, by simp [hsh]⟩
          subst hr
          go_wp2_with fail
          go_ret
          exact ⟨rfl, hch⟩
        · go_wp2_with fail
          go_roundw
          case rel => exact ⟨k + 1, by omega, by go_num, by rw [HST.out, HF.out, hsh]; rfl, hx, hch⟩
          case measure => simp [intOf]; omega
      · have hr : r = true := by
          rw [hR2.out]; have := HF.out; rwa [List.take_of_length_le (by rw [HN.out]; omega)] at this
        subst hr
        go_wp2_with fail
        go_ret
        exact ⟨rfl, hch⟩
  · have hr : r = false := by rw [← HR.out]; simp [hlen]
    subst hr
    have hgt : decide (m < n) = true := by simp; omega
    clear HR hlen
    go_enter Try.func7, Try.ntmps7
    go_wp2_with fail
    go_ret
    exact ⟨rfl, hch⟩

set_option maxRecDepth 20000 in
set_option maxHeartbeats 1000000 in
theorem Sum_nil (A : Option Addr) (cap : Nat) (w : World) :
    Calls Try.prog 18 #[.slice A 0 cap] w fun e w' => ∃ z, e = .returned (.agg #[.bool z.neg, .string z.num, .string z.den]) ∧ Val z 0 1 ∧ Chg [] w w' := by
  have hch : Chg [] w (w.alloc (.cells #[.bool false, .string ⟨#[]⟩, .string ⟨#[]⟩] 38)) := (Chg.refl _ _).alloc _
  have b1 := Blk3.alloc w (.bool false) (.string ⟨#[]⟩) (.string ⟨#[]⟩) 38
  go_enter Try.func18, Try.ntmps18
  have b1c0 := b1.c0
  have b1c1 := b1.c1
  have b1c2 := b1.c2
  have b1f0 := b1.f0
  have b1f1 := b1.f1
  have b1f2 := b1.f2
  have b1l := b1.lt
  go_wp2_with fail
  have S := b1.store (.bool false) (.string ⟨#[]⟩) (.string ⟨#[]⟩)
  exact bodyPost_ret (v := .agg #[.bool false, .string ⟨#[]⟩, .string ⟨#[]⟩]) (by simp [results, Try.results18, go_sem]) rfl ⟨q0, rfl, ⟨Enc_zero, ⟨by decide, by decide⟩⟩, (Chg.refl _ _).alloc _⟩

set_option maxRecDepth 20000 in
set_option maxHeartbeats 2000000 in
theorem Sum_upto : ∀ (n m : Nat), 1 ≤ m → m ≤ n → ∀ (xs : List Q3) (A : Option Addr) (cap k : Nat) (w : World), xs.length = m → (∀ x ∈ xs, fits x k) → 1 ≤ k → m ≤ cap → cap ≤ 9223372036854775807 → m * (k + 2) ≤ 34359738367 → Rds w A xs →
    Calls Try.prog 18 #[.slice A m cap] w fun e w' => ∃ z, e = .returned (.agg #[.bool z.neg, .string z.num, .string z.den]) ∧ Val z (sumQ xs) (m * (k + 2) - 1) ∧ Chg [] w w' := by
  intro n
  induction n with
  | zero => intro m h1 h2; omega
  | succ n ih =>
    intro m h1 h2 xs A cap k w hl hf hk hcap hcm hb hx
    obtain ⟨g, o, rfl, hgl⟩ := hx.form (by omega)
    have hch : Chg [] w (w.alloc (.cells #[.bool false, .string ⟨#[]⟩, .string ⟨#[]⟩] 38)) := (Chg.refl _ _).alloc _
    have b1 := Blk3.alloc w (.bool false) (.string ⟨#[]⟩) (.string ⟨#[]⟩) 38
    replace hx := hx.keep0 hch
    have IH := Lib.hid ih
    clear ih
    have HF := Lib.hid hf
    clear hf
    by_cases hm1 : m = 1
    · subst hm1
      obtain ⟨_, c0, c1, c2⟩ := hx.at_ (j := 0) (by omega)
      rw [Nat.zero_mul, Nat.add_zero] at c0 c1 c2
      obtain ⟨s, HS⟩ := name_it (xs.getD 0 q0)
      rw [HS.out] at c0 c1 c2
      have hs : Hid (sumQ xs = ratOf s) := by
        show _ = _
        have := sumQ_snoc xs (k := 0) (by omega)
        rw [List.take_of_length_le (by omega), HS.out, List.take_zero] at this
        rw [this]; simp only [sumQ]; grind
      have ns : Num s (ratOf s) k := ⟨rfl, HF.out s (by rw [← HS.out]; exact mem_getD (by omega)), hk⟩
      obtain ⟨r, HR⟩ := name_it (ratOf s)
      rw [HR.out] at ns hs
      clear hx
      have b1c0 := b1.c0
      have b1c1 := b1.c1
      have b1c2 := b1.c2
      have b1f0 := b1.f0
      have b1f1 := b1.f1
      have b1f2 := b1.f2
      have b1l := b1.lt
      go_enter Try.func18, Try.ntmps18
      go_wp2_with fail
      refine (countedN s r k _ ns (by omega)).mono ?_
      rintro e w1 ⟨z, rfl, hz, c1⟩
      skip
      clear b1c0 b1f0 b1c1 b1f1 b1c2 b1f2 b1l
      replace b1 := b1.keep c1 (by simp)
      replace hch := hch.then c1
      clear c1
      have b1c0 := b1.c0
      have b1c1 := b1.c1
      have b1c2 := b1.c2
      have b1f0 := b1.f0
      have b1f1 := b1.f1
      have b1f2 := b1.f2
      have b1l := b1.lt
      go_wp2_with fail
      rw [hs.out]
      have S := b1.store (.bool z.neg) (.string z.num) (.string z.den)
      exact bodyPost_ret (v := .agg #[.bool z.neg, .string z.num, .string z.den]) (by simp [results, Try.results18, go_sem, S.c0, S.c1, S.c2]) rfl ⟨z, rfl, hz.mono (by omega), hch.store3 (.inr (by omega)) _ _ _⟩
    · obtain ⟨h, HH⟩ := name_it (m / 2)
      have hh1 : 1 ≤ h := by have := HH.out; omega
      have hhm : h < m := by have := HH.out; omega
      have hhn : h ≤ n := by omega
      have hmn : m - h ≤ n := by omega
      have hmh : 1 ≤ m - h := by omega
      have hdiv : Hid ((m : Int) / 2 = (h : Int)) := by show _ = _; have := HH.out; omega
      have z1 : (0 : Int) ≤ (h : Int) := by omega
      have z2 : (h : Int) ≤ (m : Int) := by omega
      have z3 : (m : Int) ≤ (cap : Int) := by omega
      have z4 : (h : Int) ≤ (cap : Int) := by omega
      have hcph : ¬ cap = h := by omega
      have hm2 : decide ((m : Int) = 1) = false := by simp; omega
      have hm0 : decide ((m : Int) = 0) = false := by simp; omega
      obtain ⟨P, HP⟩ := name_it (m * (k + 2))
      obtain ⟨P1, HP1⟩ := name_it (h * (k + 2))
      obtain ⟨P2, HP2⟩ := name_it ((m - h) * (k + 2))
      have hpp : P1 + P2 = P := by
        rw [← HP.out, ← HP1.out, ← HP2.out, ← Nat.add_mul]; congr 1; omega
      have hp1 : 1 ≤ P1 := by rw [← HP1.out]; exact Nat.mul_pos hh1 (by omega)
      have hp2 : 1 ≤ P2 := by rw [← HP2.out]; exact Nat.mul_pos hmh (by omega)
      rw [HP.out] at hb ⊢
      have T1 := Lib.hid (hx.take h)
      have T2 := Lib.hid (hx.drop h)
      have hsp := Lib.hid (sumQ_split xs h)
      obtain ⟨q1, Q1⟩ := name_it (sumQ (xs.take h))
      obtain ⟨q2, Q2⟩ := name_it (sumQ (xs.drop h))
      obtain ⟨q, Q⟩ := name_it (sumQ xs)
      rw [Q1.out, Q2.out, Q.out] at hsp
      rw [Q.out]
      have C1 : Hid (∀ w, Rds w (some ⟨g, o, none⟩) (xs.take h) → Calls Try.prog 18 #[.slice (some ⟨g, o, none⟩) h cap] w fun e w' => ∃ z, e = .returned (.agg #[.bool z.neg, .string z.num, .string z.den]) ∧ Val z q1 (P1 - 1) ∧ Chg [] w w') := by
        show ∀ _, _ → _
        intro w hr
        have := IH.out h hh1 hhn (xs.take h) _ cap k w (by rw [List.length_take]; omega) (fun x hx => HF.out x (List.mem_of_mem_take hx)) hk (by omega) hcm (by rw [HP1.out]; omega) hr
        rwa [Q1.out, HP1.out] at this
      have C2 : Hid (∀ w, Rds w (some ⟨g, o + h * 3, none⟩) (xs.drop h) → Calls Try.prog 18 #[.slice (some ⟨g, o + h * 3, none⟩) (m - h) (cap - h)] w fun e w' => ∃ z, e = .returned (.agg #[.bool z.neg, .string z.num, .string z.den]) ∧ Val z q2 (P2 - 1) ∧ Chg [] w w') := by
        show ∀ _, _ → _
        intro w hr
        have := IH.out (m - h) hmh hmn (xs.drop h) _ (cap - h) k w (by rw [List.length_drop]; omega) (fun x hx => HF.out x (List.mem_of_mem_drop hx)) hk (by omega) (by omega) (by rw [HP2.out]; omega) hr
        rwa [Q2.out, HP2.out] at this
      clear hx IH HF hm1
      go_enter Try.func18, Try.ntmps18
      have b1c0 := b1.c0
      have b1c1 := b1.c1
      have b1c2 := b1.c2
      have b1f0 := b1.f0
      have b1f1 := b1.f1
      have b1f2 := b1.f2
      have b1l := b1.lt
      go_wp2_with fail
      clear b1c0 b1f0 b1c1 b1f1 b1c2 b1f2 b1l
      rw [hdiv.out]
      replace b1 := b1.keep ((Chg.refl [] _).drew) (by simp)
      replace hch := hch.drew
      have T1d := Lib.hid (T1.out.keep0 ((Chg.refl [] _).drew))
      have T2d := Lib.hid (T2.out.keep0 ((Chg.refl [] _).drew))
      clear T1 T2
      go_region_held3 (fun w' => True) (trivial) (first
          | (go_at_call 18
             (with_reducible refine (C1.out _ T1d.out).mono ?_)
             rintro e w1 ⟨y1, rfl, hy1, c1⟩
             replace b1 := b1.keep c1 (by simp)
             try replace T2d := Lib.hid (T2d.out.keep0 c1)
             replace hch := hch.then c1
             clear c1)
          | (go_at_call 18
             (with_reducible refine (C2.out _ T2d.out).mono ?_)
             rintro e w1 ⟨y2, rfl, hy2, c1⟩
             replace b1 := b1.keep c1 (by simp)
             try replace T1d := Lib.hid (T1d.out.keep0 c1)
             replace hch := hch.then c1
             clear c1)
          | (go_at_call 48
             (with_reducible refine (qsum_any y1 y2 q1 q2 (P1 + P2 - 2) _ hy1.enc hy2.enc (hy1.bd.mono (by omega)) (hy2.bd.mono (by omega)) (by omega)).mono ?_)
             rintro e w1 ⟨z, rfl, hz, c1⟩
             replace b1 := b1.keep c1 (by simp)
             replace hch := hch.then c1
             clear c1
             have g0 := b1.c0
             have g1 := b1.c1
             have g2 := b1.c2
             have j0 := b1.f0
             have j1 := b1.f1
             have j2 := b1.f2))
      all_goals
        skip
        rw [hsp.out] at hz
        have HZ : Hid (Val z q (P - 1)) := by
          show Val _ _ _
          refine ⟨hz, ?_⟩
          have := hy1.bd.add hy2.bd
          rw [hsp.out] at this
          exact this.mono (by omega)
        go_wp2_with fail
        have S := b1.store (.bool z.neg) (.string z.num) (.string z.den)
        exact bodyPost_ret (v := .agg #[.bool z.neg, .string z.num, .string z.den]) (by simp [results, Try.results18, go_sem, S.c0, S.c1, S.c2]) rfl ⟨z, rfl, HZ.out, hch.store3 (.inr (Nat.le_refl _)) _ _ _⟩

set_option maxRecDepth 20000 in
set_option maxHeartbeats 2000000 in
theorem rSum_any (xs : List Q3) (A : Option Addr) (cap k : Nat) (w : World) (hf : ∀ x ∈ xs, fits x k) (hk : 1 ≤ k) (hb : xs.length * (k + 2) ≤ 34359738367) (hk2 : k ≤ 34359738367) (hx : Rds w A xs) :
    Calls Try.prog 29 #[.slice A xs.length cap] w fun e w' => ∃ z, e = .returned (.agg #[.bool z.neg, .string z.num, .string z.den]) ∧ Val z (sumQ xs) (xs.length * (k + 2) + 1) ∧ Chg [] w w' := by
  have hch : Chg [] w ((w.alloc (.cells #[.bool false, .string ⟨#[]⟩, .string ⟨#[]⟩] 38)).alloc (.cells #[.bool false, .string ⟨#[]⟩, .string ⟨#[]⟩] 38)) := ((Chg.refl _ _).alloc _).alloc _
  have b1 := (Blk3.alloc w (.bool false) (.string ⟨#[]⟩) (.string ⟨#[]⟩) 38).keep ((Chg.refl [] _).alloc (.cells #[.bool false, .string ⟨#[]⟩, .string ⟨#[]⟩] 38)) (by simp)
  have b2 := Blk3.alloc (w.alloc (.cells #[.bool false, .string ⟨#[]⟩, .string ⟨#[]⟩] 38)) (.bool false) (.string ⟨#[]⟩) (.string ⟨#[]⟩) 38
  rw [World.size_alloc] at b2
  have hA : Hid (0 < xs.length → ∃ g o, A = some ⟨g, o, none⟩ ∧ g < w.heap.size) := Lib.hid hx.form
  replace hx := hx.keep0 hch
  have HF := Lib.hid hf
  clear hf
  obtain ⟨n, HN⟩ := name_it xs.length
  rw [HN.out] at hb ⊢
  have hn : n ≤ 34359738367 := Nat.le_trans (Nat.le_mul_of_pos_right n (by omega)) hb
  go_enter Try.func29, Try.ntmps29
  have b1c0 := b1.c0
  have b1c1 := b1.c1
  have b1c2 := b1.c2
  have b1f0 := b1.f0
  have b1f1 := b1.f1
  have b1f2 := b1.f2
  have b1l := b1.lt
  have b2c0 := b2.c0
  have b2c1 := b2.c1
  have b2c2 := b2.c2
  have b2f0 := b2.f0
  have b2f1 := b2.f1
  have b2f2 := b2.f2
  have b2l := b2.lt
  go_wp2_with fail
  clear b1c0 b1f0 b1c1 b1f1 b1c2 b1f2 b1l b2c0 b2f0 b2c1 b2f1 b2c2 b2f2 b2l
  go_loopw [4] (fun iv wr => ∃ (i : Nat) (z : Q3), i ≤ n ∧ iv = .int .i64 i ∧ Val z (sumQ (xs.take i)) (i * (k + 2) + 1) ∧ Blk3 wr w.heap.size (.bool false) (.string ⟨#[]⟩) (.string ⟨#[]⟩) ∧ Blk3 wr (w.heap.size + 1) (.bool z.neg) (.string z.num) (.string z.den) ∧ Rds wr A xs ∧ Chg [] w wr) (fun iv _ => n - (intOf iv).toNat)
  case atStart => exact ⟨0, q0, Nat.zero_le _, rfl, by rw [List.take_zero, Nat.zero_mul]; exact Val_zero, b1, b2, hx, hch⟩
  case round =>
    clear b1 b2 hx hch
    obtain ⟨i, z, hi, rfl, hz, b1, b2, hx, hch⟩ := hrel
    by_cases hlt : i < n
    · obtain ⟨g, o, rfl, hgl⟩ := hA.out (by rw [HN.out]; omega)
      obtain ⟨_, c0, c1, c2⟩ := hx.at_ (j := i) (by rw [HN.out]; exact hlt)
      obtain ⟨s, HS⟩ := name_it (xs.getD i q0)
      rw [HS.out] at c0 c1 c2
      have hs := Lib.hid (sumQ_snoc xs (k := i) (by rw [HN.out]; exact hlt))
      rw [HS.out] at hs
      have ns : Num s (ratOf s) k := ⟨rfl, HF.out s (by rw [← HS.out]; exact mem_getD (by rw [HN.out]; exact hlt)), hk⟩
      obtain ⟨r, HR⟩ := name_it (ratOf s)
      rw [HR.out] at ns hs
      obtain ⟨q, Q⟩ := name_it (sumQ (xs.take i))
      rw [Q.out] at hz hs
      have hmul : Hid (i * (k + 2) + (k + 2) = (i + 1) * (k + 2)) := Lib.hid (by rw [Nat.add_mul, Nat.one_mul])
      have hle : i * (k + 2) + (k + 2) ≤ 34359738367 := by
        rw [hmul.out]; exact Nat.le_trans (Nat.mul_le_mul_right _ hlt) hb
      obtain ⟨T, HT⟩ := name_it (i * (k + 2))
      rw [HT.out] at hz hle hmul
      have e0 : wr.drew.cell? ⟨g, o + i * 3, none⟩ = some (.bool s.neg) := c0
      have e1 : wr.drew.cell? ⟨g, o + i * 3 + 1, none⟩ = some (.string s.num) := c1
      have e2 : wr.drew.cell? ⟨g, o + i * 3 + 2, none⟩ = some (.string s.den) := c2
      have i1 : (0 : Int) ≤ (i : Int) := by omega
      have i2 : (i : Int) < (n : Int) := by omega
      clear hi
      have b1c0 := b1.c0
      have b1c1 := b1.c1
      have b1c2 := b1.c2
      have b1f0 := b1.f0
      have b1f1 := b1.f1
      have b1f2 := b1.f2
      have b1l := b1.lt
      have b2c0 := b2.c0
      have b2c1 := b2.c1
      have b2c2 := b2.c2
      have b2f0 := b2.f0
      have b2f1 := b2.f1
      have b2f2 := b2.f2
      have b2l := b2.lt
      go_wp2_with fail
      clear b1c0 b1f0 b1c1 b1f1 b1c2 b1f2 b1l b2c0 b2f0 b2c1 b2f1 b2c2 b2f2 b2l
      replace b1 := b1.keep ((Chg.refl [] _).drew) (by simp)
      replace b2 := b2.keep ((Chg.refl [] _).drew) (by simp)
      try replace hx := hx.keep0 ((Chg.refl [] _).drew)
      replace hch := hch.drew
      clear c0 c1 c2
      have b1c0 := b1.c0
      have b1c1 := b1.c1
      have b1c2 := b1.c2
      have b1f0 := b1.f0
      have b1f1 := b1.f1
      have b1f2 := b1.f2
      have b1l := b1.lt
      have b2c0 := b2.c0
      have b2c1 := b2.c1
      have b2c2 := b2.c2
      have b2f0 := b2.f0
      have b2f1 := b2.f1
      have b2f2 := b2.f2
      have b2l := b2.lt
      go_region_with (first
          | (go_at_call 32
             (with_reducible refine (rFixN s r k _ ns (by omega)).mono ?_)
             rintro e w1 ⟨y, rfl, hy, c1⟩
             clear b1c0 b1f0 b1c1 b1f1 b1c2 b1f2 b1l b2c0 b2f0 b2c1 b2f1 b2c2 b2f2 b2l
             replace b1 := b1.keep c1 (by simp)
             replace b2 := b2.keep c1 (by simp)
             try replace hx := hx.keep0 c1
             replace hch := hch.then c1
             clear c1
             have b1c0 := b1.c0
             have b1f0 := b1.f0
             have b1c1 := b1.c1
             have b1f1 := b1.f1
             have b1c2 := b1.c2
             have b1f2 := b1.f2
             have b1l := b1.lt
             have b2c0 := b2.c0
             have b2f0 := b2.f0
             have b2c1 := b2.c1
             have b2f1 := b2.f1
             have b2c2 := b2.c2
             have b2f2 := b2.f2
             have b2l := b2.lt)
          | (go_at_call 60
             (with_reducible refine (rPlus_any z y q r (T + 1) k _ hz hy (by omega)).mono ?_)
             rintro e w1 ⟨z2, rfl, hz2, c1⟩
             clear b1c0 b1f0 b1c1 b1f1 b1c2 b1f2 b1l b2c0 b2f0 b2c1 b2f1 b2c2 b2f2 b2l
             replace b1 := b1.keep c1 (by simp)
             replace b2 := b2.keep c1 (by simp)
             try replace hx := hx.keep0 c1
             replace hch := hch.then c1
             clear c1
             rw [← hs.out] at hz2
             have b1c0 := b1.c0
             have b1f0 := b1.f0
             have b1c1 := b1.c1
             have b1f1 := b1.f1
             have b1c2 := b1.c2
             have b1f2 := b1.f2
             have b1l := b1.lt
             have b2c0 := b2.c0
             have b2f0 := b2.f0
             have b2c1 := b2.c1
             have b2f1 := b2.f1
             have b2c2 := b2.c2
             have b2f2 := b2.f2
             have b2l := b2.lt))
      all_goals
        go_wp2_with fail
        go_roundw
        case rel => exact ⟨i + 1, z2, by omega, by go_num, by rw [← hmul.out]; exact hz2.mono (by omega), b1.st2 (by omega) _ _ _, b2.store _ _ _, hx.st3 (by omega) _ _ _, hch.store3 (.inr (by omega)) _ _ _⟩
        case measure => simp [intOf]; omega
    · obtain rfl : i = n := by omega
      rw [List.take_of_length_le (by rw [HN.out]; omega)] at hz
      have b1c0 := b1.c0
      have b1c1 := b1.c1
      have b1c2 := b1.c2
      have b1f0 := b1.f0
      have b1f1 := b1.f1
      have b1f2 := b1.f2
      have b1l := b1.lt
      have b2c0 := b2.c0
      have b2c1 := b2.c1
      have b2c2 := b2.c2
      have b2f0 := b2.f0
      have b2f1 := b2.f1
      have b2f2 := b2.f2
      have b2l := b2.lt
      go_wp2_with fail
      have S := b1.store (.bool z.neg) (.string z.num) (.string z.den)
      exact bodyPost_ret (v := .agg #[.bool z.neg, .string z.num, .string z.den]) (by simp [results, Try.results29, go_sem, S.c0, S.c1, S.c2]) rfl ⟨z, rfl, hz, hch.store3 (.inr (by omega)) _ _ _⟩

end Go.Proofs.Ytdlejpaaoinokaa
