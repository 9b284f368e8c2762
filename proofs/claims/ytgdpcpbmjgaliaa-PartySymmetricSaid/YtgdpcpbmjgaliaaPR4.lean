/-
  Party: the reference's Controlled, Controls; SameInts.
-/
import Derived.Test.YtgdpcpbmjgaliaaPR3
namespace Go.Proofs.Ytgdpcpbmjgaliaa
open Go.RowKit Nd

set_option maxRecDepth 20000 in
set_option maxHeartbeats 1000000 in
theorem sameZ_any (L : List Zn) (n : Nat) (A B : Option Addr) (c d : Nat) (w : World) (hl : L.length = n) (hn : n ≤ 1000000) (hx : SZn w A L) (hy : SZn w B L) :
    Calls Try.prog 21 #[.slice A n c, .slice B n d] w fun e w' => e = .returned (.bool true) ∧ Chg [] w w' := by
  have hch : Chg [] w w := Chg.refl _ _
  have HL := Lib.hid hl
  clear hl
  have hne : ((n : Int) == (n : Int)) = true := by simp
  go_enter Try.func21, Try.ntmps21
  go_wp2_with fail
  go_loopw [5] (fun iv wr => ∃ k : Nat, k ≤ n ∧ iv = .int .i64 k ∧ SZn wr A L ∧ SZn wr B L ∧ Chg [] w wr) (fun iv _ => n - (intOf iv).toNat)
  case atStart => exact ⟨0, Nat.zero_le _, rfl, hx, hy, hch⟩
  case round =>
    clear hx hy hch
    obtain ⟨k, hk, rfl, hx, hy, hch⟩ := hrel
    by_cases hlt : k < n
    · obtain ⟨g, o, rfl, _⟩ := hx.form (by rw [HL.out]; omega)
      obtain ⟨h, q, rfl, _⟩ := hy.form (by rw [HL.out]; omega)
      have a1 := (hx.at_ (j := k) (by rw [HL.out]; exact hlt)).c0
      have d1 := (hy.at_ (j := k) (by rw [HL.out]; exact hlt)).c0
      rw [Nat.mul_one] at a1 d1
      obtain ⟨s, HS⟩ := name_it ((L.getD k zn0).x)
      rw [HS.out] at a1 d1
      have i1 : (0 : Int) ≤ (k : Int) := by omega
      have i2 : (k : Int) < (n : Int) := by omega
      go_wp2_with fail
      go_quiet (fail)
      go_wp2_with fail
      go_roundw
      case rel => exact ⟨k + 1, by omega, by go_num, hx.keep0 ((Chg.refl [] _).drewN _), hy.keep0 ((Chg.refl [] _).drewN _), hch.drewN _⟩
      case measure => simp [intOf]; omega
    · go_wp2_with fail
      go_ret
      exact ⟨rfl, hch⟩

theorem hasB_idx {X : Nat → Bool} {b : Nat} : ∀ {n : Nat}, b < n → hasB (idx X n) (b : Int) = X b
  | 0, h => absurd h (by omega)
  | n + 1, h => by
    have hno : ∀ m, m ≤ b → hasB (idx X m) (b : Int) = false := by
      intro m
      induction m with
      | zero => intro _; rfl
      | succ m ih =>
        intro hm
        simp only [idx]
        split
        · show ((idx X m ++ [_]).any _) = false
          rw [List.any_append]
          have h1 : hasB (idx X m) (b : Int) = false := ih (by omega)
          unfold hasB at h1
          rw [h1]; simp; omega
        · exact ih (by omega)
    by_cases e : b = n
    · subst e
      simp only [idx]
      have h1 := hno b (Nat.le_refl _)
      unfold hasB at h1 ⊢
      split
      · rename_i hx
        rw [List.any_append, h1, hx]; simp
      · rename_i hx
        rw [h1]; simp at hx; exact hx.symm
    · have ih := hasB_idx (X := X) (b := b) (n := n) (by omega)
      simp only [idx]
      unfold hasB at ih ⊢
      split
      · rw [List.any_append, ih]; simp; omega
      · exact ih

theorem cf_one {p : PV} {o : Int} (h : ckP p.K p.S p.T = 0) (h2 : inB p.n o = false) : cfE p [⟨o⟩] = 14 := by unfold cfE; rw [if_neg (by simp [h])]; simp [h2]
theorem cf_one_ok {p : PV} {o : Int} (h : ckP p.K p.S p.T = 0) (h2 : inB p.n o = true) : cfE p [⟨o⟩] = 0 := by unfold cfE; rw [if_neg (by simp [h])]; simp [h2]
theorem cf_ck {p : PV} {L : List Zn} (h : ckP p.K p.S p.T ≠ 0) : cfE p L = ckP p.K p.S p.T := by unfold cfE; rw [if_pos h]
theorem cf_two {p : PV} {a b : Int} (h : ckP p.K p.S p.T = 0) (h2 : inB p.n a = false ∨ inB p.n b = false) : cfE p [⟨a⟩, ⟨b⟩] = 14 := by
  unfold cfE; rw [if_neg (by simp [h])]
  rcases h2 with h2 | h2 <;> simp [h2]
theorem cf_two_ok {p : PV} {a b : Int} (h : ckP p.K p.S p.T = 0) (h2 : inB p.n a = true) (h3 : inB p.n b = true) : cfE p [⟨a⟩, ⟨b⟩] = 0 := by unfold cfE; rw [if_neg (by simp [h])]; simp [h2, h3]
theorem inB_lo {n : Nat} {x : Int} (h : x < 0) : inB n x = false := by unfold inB; simp; omega
theorem inB_hi {n : Nat} {x : Int} (h : (n : Int) ≤ x) : inB n x = false := by unfold inB; simp; omega
theorem inB_in {n : Nat} {x : Int} (h1 : 0 ≤ x) (h2 : x < (n : Int)) : inB n x = true := by unfold inB; simp [h1, h2]

set_option maxRecDepth 20000 in
set_option maxHeartbeats 2000000 in
theorem rControlled_any (p : PV) (k : Nat) (o : Int) (LX : Nat → Bool) (w : World) (hp : p.At w) (hF : FitS p.S k) (hL : cfE p [⟨o⟩] = 0 → Least (pdOf p.K p.S) o.toNat LX) :
    Calls Try.prog 18 #[p.val, .int .i64 o] w fun e w' => ∃ v, e = .returned (.tuple #[v, .int .i64 (cfE p [⟨o⟩])]) ∧ OwnZn w' v (ctlL (cfE p [⟨o⟩]) LX p.n) ∧ (∀ x ∈ v.ownBlock.toList, w.heap.size ≤ x) ∧ Chg [] w w' := by
  have b1 := box_p p w
  have hch := chg_p p w
  replace hp := hp.keep0 hch
  have b1c0 := b1.c0
  have b1c1 := b1.c1
  have b1c2 := b1.c2
  have HCK := Lib.hid (fun w h => rckp_any p k w h hF)
  have HZ : Hid (ckP p.K p.S p.T = 0 → p.m ≤ 64 ∧ p.n ≤ 32 ∧ GoodS p.K p.S) := Lib.hid fun h => by
    have h2 := ck_zero h
    rw [hp.kn, hp.sn] at h2
    exact ⟨h2.2.1, h2.1, h2.2.2.2.1⟩
  have H1 : Hid (ckP p.K p.S p.T ≠ 0 → cfE p [⟨o⟩] = ckP p.K p.S p.T) := Lib.hid cf_ck
  have H2 : Hid (ckP p.K p.S p.T = 0 → inB p.n o = false → cfE p [⟨o⟩] = 14) := Lib.hid cf_one
  have H3 : Hid (ckP p.K p.S p.T = 0 → inB p.n o = true → cfE p [⟨o⟩] = 0) := Lib.hid cf_one_ok
  have HB : Hid (cfE p [⟨o⟩] ≠ 0 → ctlL (cfE p [⟨o⟩]) LX p.n = []) := Lib.hid fun h => by unfold ctlL; rw [if_neg h]
  have HG : Hid (cfE p [⟨o⟩] = 0 → ctlL (cfE p [⟨o⟩]) LX p.n = idx LX p.n) := Lib.hid fun h => if_pos h
  have HLL := Lib.hid hL
  have HF := Lib.hid hF
  obtain ⟨r, HR⟩ := name_it (cfE p [⟨o⟩])
  obtain ⟨q, HQ⟩ := name_it (ckP p.K p.S p.T)
  rw [HQ.out] at HCK HZ
  rw [HQ.out, HR.out] at H1 H2 H3
  rw [HR.out] at HB HG HLL ⊢
  clear hL hF
  go_enter Try.func18, Try.ntmps18
  go_wp2_with fail
  refine (HCK.out _ hp).mono ?_
  rintro e w1 ⟨rfl, c1⟩
  have hp1 := hp.keep0 c1
  have hch1 := hch.then c1
  have d1c0 := (b1.keep0 c1).c0
  have d1c1 := (b1.keep0 c1).c1
  have d1c2 := (b1.keep0 c1).c2
  clear c1 b1c0 b1c1 b1c2 b1 hp hch
  by_cases hq : q = 0
  · subst hq
    by_cases h1 : o < 0
    · obtain rfl : r = 14 := H2.out rfl (inB_lo h1)
      have e1 : decide (o < 0) = true := decide_eq_true h1
      have HBB := Lib.hid (HB.out (by decide))
      clear h1
      go_wp2_with fail
      go_ret2
      exact ⟨_, rfl, by rw [HBB.out]; exact OwnZn.nil _, by simp [Value.ownBlock], hch1⟩
    · have e1 : decide (o < 0) = false := decide_eq_false h1
      by_cases h2 : (p.n : Int) ≤ o
      · obtain rfl : r = 14 := H2.out rfl (inB_hi h2)
        have e2 : decide ((p.n : Int) ≤ o) = true := decide_eq_true h2
        have HBB := Lib.hid (HB.out (by decide))
        clear h1 h2
        go_wp2_with fail
        go_ret2
        exact ⟨_, rfl, by rw [HBB.out]; exact OwnZn.nil _, by simp [Value.ownBlock], hch1⟩
      · have e2 : decide ((p.n : Int) ≤ o) = false := decide_eq_false h2
        obtain rfl : r = 0 := H3.out rfl (inB_in (by omega) (by omega))
        obtain ⟨a, HA⟩ : ∃ a : Nat, Hid (o = (a : Int)) := ⟨o.toNat, Lib.hid (by omega)⟩
        obtain ⟨hm, hn, hGS⟩ := HZ.out rfl
        have HCT : Hid (∀ w, p.At w → Calls Try.prog 39 #[p.val, .int .i64 o] w fun e w' => ∃ v, e = .returned v ∧ OwnZn w' v (idx LX p.n) ∧ (∀ x ∈ v.ownBlock.toList, w.heap.size ≤ x) ∧ Chg [] w w') := Lib.hid fun w h => by
          have h3 := HLL.out rfl
          rw [HA.out]
          rw [HA.out, Int.toNat_natCast] at h3
          exact rcontrolled_any p k a LX w h hm hn hGS HF.out h3
        have HGG := Lib.hid (HG.out rfl)
        clear h1 h2
        go_wp2_with fail
        refine (HCT.out _ hp1).mono ?_
        rintro e w3 ⟨v, rfl, hown, hob, c1⟩
        have hwg := hch1.size
        replace hch1 := hch1.then c1
        have HO := Lib.hid hown
        have HOB : Hid (∀ x ∈ v.ownBlock.toList, w.heap.size ≤ x) := Lib.hid fun x hx => Nat.le_trans hwg (hob x hx)
        clear c1 hown hob d1c0 d1c1 d1c2 hGS hp1
        go_wp2_with fail
        go_ret2
        exact ⟨v, rfl, by rw [HGG.out]; exact HO.out, HOB.out, hch1⟩
  · obtain rfl : r = q := H1.out hq
    have e1 : (r == 0) = false := by simp [hq]
    have e2 : (r != 0) = true := by simp [hq]
    have HBB := Lib.hid (HB.out hq)
    go_wp2_with fail
    go_ret2
    exact ⟨_, rfl, by rw [HBB.out]; exact OwnZn.nil _, by simp [Value.ownBlock], hch1⟩

set_option maxRecDepth 20000 in
set_option maxHeartbeats 2000000 in
theorem rtwo_any (p : PV) (k : Nat) (a b : Int) (w : World) (hp : p.At w) (hF : FitS p.S k) :
    Calls Try.prog 40 #[p.val, .int .i64 a, .int .i64 b] w fun e w' => e = .returned (.int .i64 (cfE p [⟨a⟩, ⟨b⟩])) ∧ Chg [] w w' := by
  have b1 := box_p p w
  have hch := chg_p p w
  replace hp := hp.keep0 hch
  have b1c0 := b1.c0
  have b1c1 := b1.c1
  have b1c2 := b1.c2
  have HCK := Lib.hid (fun w h => rckp_any p k w h hF)
  have H1 : Hid (ckP p.K p.S p.T ≠ 0 → cfE p [⟨a⟩, ⟨b⟩] = ckP p.K p.S p.T) := Lib.hid cf_ck
  have H2 : Hid (ckP p.K p.S p.T = 0 → (inB p.n a = false ∨ inB p.n b = false) → cfE p [⟨a⟩, ⟨b⟩] = 14) := Lib.hid cf_two
  have H3 : Hid (ckP p.K p.S p.T = 0 → inB p.n a = true → inB p.n b = true → cfE p [⟨a⟩, ⟨b⟩] = 0) := Lib.hid cf_two_ok
  obtain ⟨r, HR⟩ := name_it (cfE p [⟨a⟩, ⟨b⟩])
  obtain ⟨q, HQ⟩ := name_it (ckP p.K p.S p.T)
  rw [HQ.out] at HCK
  rw [HQ.out, HR.out] at H1 H2 H3
  rw [HR.out]
  clear hF
  go_enter Try.func40, Try.ntmps40
  go_wp2_with fail
  refine (HCK.out _ hp).mono ?_
  rintro e w1 ⟨rfl, c1⟩
  have hch1 := hch.then c1
  have d1c0 := (b1.keep0 c1).c0
  have d1c1 := (b1.keep0 c1).c1
  have d1c2 := (b1.keep0 c1).c2
  clear c1 b1c0 b1c1 b1c2 b1 hp hch
  by_cases hq : q = 0
  · subst hq
    by_cases h1 : a < 0
    · obtain rfl : r = 14 := H2.out rfl (.inl (inB_lo h1))
      have e1 : decide (a < 0) = true := decide_eq_true h1
      clear h1
      go_wp2_with fail
      go_ret
      exact ⟨rfl, hch1⟩
    · have e1 : decide (a < 0) = false := decide_eq_false h1
      by_cases h2 : (p.n : Int) ≤ a
      · obtain rfl : r = 14 := H2.out rfl (.inl (inB_hi h2))
        have e2 : decide ((p.n : Int) ≤ a) = true := decide_eq_true h2
        clear h1 h2
        go_wp2_with fail
        go_ret
        exact ⟨rfl, hch1⟩
      · have e2 : decide ((p.n : Int) ≤ a) = false := decide_eq_false h2
        by_cases h3 : b < 0
        · obtain rfl : r = 14 := H2.out rfl (.inr (inB_lo h3))
          have e3 : decide (b < 0) = true := decide_eq_true h3
          clear h1 h2 h3
          go_wp2_with fail
          go_ret
          exact ⟨rfl, hch1⟩
        · have e3 : decide (b < 0) = false := decide_eq_false h3
          by_cases h4 : (p.n : Int) ≤ b
          · obtain rfl : r = 14 := H2.out rfl (.inr (inB_hi h4))
            have e4 : decide ((p.n : Int) ≤ b) = true := decide_eq_true h4
            clear h1 h2 h3 h4
            go_wp2_with fail
            go_ret
            exact ⟨rfl, hch1⟩
          · have e4 : decide ((p.n : Int) ≤ b) = false := decide_eq_false h4
            obtain rfl : r = 0 := H3.out rfl (inB_in (by omega) (by omega)) (inB_in (by omega) (by omega))
            clear h1 h2 h3 h4
            go_wp2_with fail
            go_ret
            exact ⟨rfl, hch1⟩
  · obtain rfl : r = q := H1.out hq
    have e1 : (r == 0) = false := by simp [hq]
    go_wp2_with fail
    go_ret
    exact ⟨rfl, hch1⟩

set_option maxRecDepth 20000 in
set_option maxHeartbeats 2000000 in
theorem rControls_any (p : PV) (k : Nat) (a b : Int) (LX : Nat → Bool) (w : World) (hp : p.At w) (hF : FitS p.S k) (hL : cfE p [⟨a⟩, ⟨b⟩] = 0 → Least (pdOf p.K p.S) a.toNat LX) :
    Calls Try.prog 20 #[p.val, .int .i64 a, .int .i64 b] w fun e w' => e = .returned (.tuple #[.bool (decide (cfE p [⟨a⟩, ⟨b⟩] = 0) && LX b.toNat), .int .i64 (cfE p [⟨a⟩, ⟨b⟩])]) ∧ Chg [] w w' := by
  have b1 := box_p p w
  have hch := chg_p p w
  replace hp := hp.keep0 hch
  have b1c0 := b1.c0
  have b1c1 := b1.c1
  have b1c2 := b1.c2
  have HTW := Lib.hid (fun w h => rtwo_any p k a b w h hF)
  have HZ : Hid (cfE p [⟨a⟩, ⟨b⟩] = 0 → ∃ x c : Nat, a = (x : Int) ∧ b = (c : Int) ∧ x < p.n ∧ c < p.n ∧ p.m ≤ 64 ∧ p.n ≤ 32 ∧ GoodS p.K p.S ∧ Least (pdOf p.K p.S) x LX) := Lib.hid fun h => by
    have h1 := cf_zero h
    obtain ⟨x, ha, hn⟩ := inB_nat (h1.2 ⟨a⟩ (by simp))
    obtain ⟨c, hc, hcn⟩ := inB_nat (h1.2 ⟨b⟩ (by simp))
    have h2 := ck_zero h1.1
    rw [hp.kn, hp.sn] at h2
    have h3 := hL h
    rw [show a.toNat = x by have : a = (x : Int) := ha; omega] at h3
    exact ⟨x, c, ha, hc, hn, hcn, h2.2.1, h2.1, h2.2.2.2.1, h3⟩
  have HF := Lib.hid hF
  obtain ⟨r, HR⟩ := name_it (cfE p [⟨a⟩, ⟨b⟩])
  rw [HR.out] at HTW HZ ⊢
  have HYG : Hid (r = 0 → (decide (r = 0) && LX b.toNat) = LX b.toNat) := Lib.hid fun h => by rw [h]; simp
  have HYB : Hid (r ≠ 0 → (decide (r = 0) && LX b.toNat) = false) := Lib.hid fun h => by simp [h]
  obtain ⟨y, HY⟩ := name_it (decide (r = 0) && LX b.toNat)
  rw [HY.out] at HYG HYB ⊢
  clear hL hF
  go_enter Try.func20, Try.ntmps20
  go_wp2_with fail
  refine (HTW.out _ hp).mono ?_
  rintro e w1 ⟨rfl, c1⟩
  have hp1 := hp.keep0 c1
  have hch1 := hch.then c1
  have d1c0 := (b1.keep0 c1).c0
  have d1c1 := (b1.keep0 c1).c1
  have d1c2 := (b1.keep0 c1).c2
  clear c1 b1c0 b1c1 b1c2 b1 hp hch
  by_cases h0 : r = 0
  · obtain ⟨x, c, rfl, rfl, han, hcn, hm, hn, hGS, hLE⟩ := HZ.out h0
    subst h0
    have HCT := Lib.hid (fun w h => rcontrolled_any p k x LX w h hm hn hGS HF.out hLE)
    have HBB : Hid (LX c = y) := Lib.hid (by have := HYG.out rfl; rw [Int.toNat_natCast] at this; exact this.symm)
    have HIX := Lib.hid (idx_len LX p.n)
    have HHI : Hid (hasB (idx LX p.n) (c : Int) = y) := Lib.hid (by rw [hasB_idx hcn]; exact HBB.out)
    clear hGS hLE
    go_wp2_with fail
    refine (HCT.out _ hp1).mono ?_
    rintro e w3 ⟨v, rfl, hown, hob, c1⟩
    obtain ⟨A, cap, rfl, -, -, hsz⟩ := hown.rds
    obtain ⟨l, HL⟩ := name_it (idx LX p.n).length
    rw [HL.out] at HIX ⊢
    have HHA : Hid (Calls Try.prog 41 #[.slice A l cap, .int .i64 (c : Int)] w3 fun e w' => e = .returned (.bool y) ∧ w3 = w') := Lib.hid (by
      have := rhas_any (idx LX p.n) l A cap (c : Int) w3 HL.out (by have := HIX.out; omega) hsz
      rwa [HHI.out] at this)
    replace hch1 := hch1.then c1
    clear c1 hown hob hsz d1c0 d1c1 d1c2 hp1
    go_wp2_with fail
    refine HHA.out.mono ?_
    rintro e w6 ⟨rfl, hw⟩
    subst hw
    go_wp2_with fail
    go_ret2
    exact ⟨rfl, hch1⟩
  · have d1 : (r == 0) = false := by simp [h0]
    have d2 : (r != 0) = true := by simp [h0]
    have hy : y = false := HYB.out h0
    subst hy
    go_wp2_with fail
    go_ret2
    exact ⟨rfl, hch1⟩
end Go.Proofs.Ytgdpcpbmjgaliaa
