/-
  Interest: the errors of a list of steps; isDay, Check, the reference's IsDay, CheckSteps.
-/
import Derived.Test.YtcfejphpflafiaaIS
import Derived.Test.YtcfejphpflafiaaGS
import Derived.BigQuiet
namespace Go.Proofs.Ytcfejphpflafiaa
open Go.RowKit Nd

set_option maxRecDepth 20000 in
theorem isDay_yes (d : Int) (w : World) (h : 0 ≤ d) (h2 : d ≤ 1048576) :
    Calls Try.prog 33 #[.int .i64 d] w fun e w' => e = .returned (.bool true) ∧ w' = w := by
  go_enter Try.func33, Try.ntmps33
  go_wp2
  go_ret
  exact ⟨rfl, rfl⟩
set_option maxRecDepth 20000 in
theorem isDay_no (d : Int) (w : World) (h : d < 0 ∨ 1048576 < d) :
    Calls Try.prog 33 #[.int .i64 d] w fun e w' => e = .returned (.bool false) ∧ w' = w := by
  rcases h with h | h
  · have d1 : decide (0 ≤ d) = false := by simp; omega
    go_enter Try.func33, Try.ntmps33
    go_wp2
    go_ret
    exact ⟨rfl, rfl⟩
  · have d1 : decide (d ≤ 1048576) = false := by simp; omega
    have d0 : decide (0 ≤ d) = true := by simp; omega
    go_enter Try.func33, Try.ntmps33
    go_wp2
    go_ret
    exact ⟨rfl, rfl⟩
/-- Whether an int is a day. -/
def isd (d : Int) : Bool := decide (0 ≤ d ∧ d ≤ 1048576)
theorem isd_yes {d : Int} (h : isd d = true) : 0 ≤ d ∧ d ≤ 1048576 := of_decide_eq_true h
theorem isd_no {d : Int} (h : isd d = false) : d < 0 ∨ 1048576 < d := by
  have := of_decide_eq_false h; omega
theorem isd_of {d : Int} (h : 0 ≤ d) (h2 : d ≤ 1048576) : isd d = true := decide_eq_true ⟨h, h2⟩
theorem isDay_any (d : Int) (w : World) (b : Bool) (h : isd d = b) :
    Calls Try.prog 33 #[.int .i64 d] w fun e w' => e = .returned (.bool b) ∧ w' = w := by
  cases b with
  | true => exact isDay_yes d w (isd_yes h).1 (isd_yes h).2
  | false => exact isDay_no d w (isd_no h)
set_option maxRecDepth 20000 in
theorem rIsDay_yes (d : Int) (w : World) (h : 0 ≤ d) (h2 : d ≤ 1048576) :
    Calls Try.prog 27 #[.int .i64 d] w fun e w' => e = .returned (.bool true) ∧ w' = w := by
  go_enter Try.func27, Try.ntmps27
  go_wp2
  go_ret
  exact ⟨rfl, rfl⟩
set_option maxRecDepth 20000 in
theorem rIsDay_no (d : Int) (w : World) (h : d < 0 ∨ 1048576 < d) :
    Calls Try.prog 27 #[.int .i64 d] w fun e w' => e = .returned (.bool false) ∧ w' = w := by
  rcases h with h | h
  · have d1 : decide (0 ≤ d) = false := by simp; omega
    go_enter Try.func27, Try.ntmps27
    go_wp2
    go_ret
    exact ⟨rfl, rfl⟩
  · have d1 : decide (d ≤ 1048576) = false := by simp; omega
    have d0 : decide (0 ≤ d) = true := by simp; omega
    go_enter Try.func27, Try.ntmps27
    go_wp2
    go_ret
    exact ⟨rfl, rfl⟩
theorem rIsDay_any (d : Int) (w : World) (b : Bool) (h : isd d = b) :
    Calls Try.prog 27 #[.int .i64 d] w fun e w' => e = .returned (.bool b) ∧ w' = w := by
  cases b with
  | true => exact rIsDay_yes d w (isd_yes h).1 (isd_yes h).2
  | false => exact rIsDay_no d w (isd_no h)

/-- The error of step i. -/
def eAt (L : Stp) (i : Nat) : Int :=
  if isd (L.getD i (0, 0)).1 = false then 1 else if 0 < i ∧ (L.getD i (0, 0)).1 ≤ (L.getD (i - 1) (0, 0)).1 then 15 else if sg (L.getD i (0, 0)).2 < 0 then 7 else 0
/-- The first error of n. -/
def fE (f : Nat → Int) : Nat → Int
  | 0 => 0
  | n + 1 => if fE f n = 0 then f n else fE f n
/-- The error of a list of steps. -/
def chk (L : Stp) : Int := if 64 < L.length then 2 else fE (eAt L) L.length
theorem slQ_length (l : List St) : (slQ l).length = l.length := List.length_map _
theorem slQ_getD : ∀ (l : List St) (i : Nat), (slQ l).getD i (0, 0) = ((l.getD i s0).fr, ratOf (l.getD i s0).rt)
  | [], i => by simp [slQ, s0, ratOf]; decide
  | x :: xs, 0 => rfl
  | x :: xs, i + 1 => by
    have := slQ_getD xs i
    simp only [slQ, List.map_cons, List.getD_cons_succ] at this ⊢
    exact this
theorem eAt_slQ (l : List St) (i : Nat) : eAt (slQ l) i = if isd (l.getD i s0).fr = false then 1 else if 0 < i ∧ (l.getD i s0).fr ≤ (l.getD (i - 1) s0).fr then 15 else if sg (ratOf (l.getD i s0).rt) < 0 then 7 else 0 := by
  unfold eAt; rw [slQ_getD, slQ_getD]
theorem fE_zero {f : Nat → Int} : ∀ {n : Nat}, fE f n = 0 → ∀ i, i < n → f i = 0
  | 0, _, i, hi => absurd hi (by omega)
  | n + 1, h, i, hi => by
    simp only [fE] at h
    by_cases h0 : fE f n = 0
    · rw [if_pos h0] at h
      by_cases e : i = n
      · rw [e]; exact h
      · exact fE_zero h0 i (by omega)
    · rw [if_neg h0] at h; exact absurd h h0
theorem fE_hit {f : Nat → Int} {i : Nat} (h0 : fE f i = 0) (h1 : f i ≠ 0) : ∀ {n : Nat}, i < n → fE f n = f i
  | 0, hi => absurd hi (by omega)
  | n + 1, hi => by
    simp only [fE]
    by_cases e : i = n
    · subst e; rw [if_pos h0]
    · have ih := fE_hit h0 h1 (n := n) (by omega)
      rw [ih, if_neg h1]
/-- The rates can be counted with. -/
structure Fits (l : List St) (k : Nat) : Prop where
  pos : 1 ≤ k
  le : k ≤ 1000
  all : ∀ s ∈ l, fits s.rt k
theorem mem_getS {l : List St} {j : Nat} (h : j < l.length) : l.getD j s0 ∈ l := by
  rw [List.getD_eq_getElem?_getD, List.getElem?_eq_getElem h, Option.getD_some]; exact List.getElem_mem _
theorem Fits.num {l : List St} {k : Nat} (h : Fits l k) {j : Nat} (hj : j < l.length) : Num (l.getD j s0).rt (ratOf (l.getD j s0).rt) k :=
  ⟨rfl, h.all _ (mem_getS hj), h.pos⟩

set_option maxRecDepth 20000 in
set_option maxHeartbeats 2000000 in
theorem check_any (l : List St) (n k : Nat) (A : Option Addr) (cap : Nat) (w : World) (hn : l.length = n) (hm : n ≤ 1000000000) (hf : Fits l k) (hx : Sds w A l) :
    Calls Try.prog 14 #[.slice A n cap] w fun e w' => e = .returned (.int .i64 (chk (slQ l))) ∧ Chg [] w w' := by
  have hch : Chg [] w w := Chg.refl _ _
  obtain ⟨r, HR⟩ := name_it (chk (slQ l))
  rw [HR.out]
  have HN := Lib.hid hn
  have HF := Lib.hid hf
  clear hn hf
  by_cases h64 : 64 < n
  · have hr : r = 2 := by rw [← HR.out]; unfold chk; rw [slQ_length, if_pos (by rw [HN.out]; exact h64)]
    subst hr
    have d1 : decide ((64 : Int) < (n : Int)) = true := decide_eq_true (by omega)
    clear HR
    go_enter Try.func14, Try.ntmps14
    go_wp2_with fail
    go_ret
    exact ⟨rfl, hch⟩
  · have HR2 : Hid (r = fE (eAt (slQ l)) n) := Lib.hid (by rw [← HR.out]; unfold chk; rw [slQ_length, if_neg (by rw [HN.out]; exact h64), HN.out])
    have d1 : decide ((64 : Int) < (n : Int)) = false := decide_eq_false (by omega)
    clear HR h64
    go_enter Try.func14, Try.ntmps14
    go_wp2_with fail
    clear d1
    go_loopw [10] (fun iv wr => ∃ i : Nat, i ≤ n ∧ iv = .int .i64 i ∧ fE (eAt (slQ l)) i = 0 ∧ Sds wr A l ∧ Chg [] w wr) (fun iv _ => n - (intOf iv).toNat)
    case atStart => exact ⟨0, Nat.zero_le _, rfl, rfl, hx, hch⟩
    case round =>
      clear hx hch
      obtain ⟨i, hi, rfl, hz, hx, hch⟩ := hrel
      have HZ := Lib.hid hz
      clear hz
      by_cases hlt : i < n
      · obtain ⟨g, o, rfl, hgl⟩ := hx.form (by rw [HN.out]; omega)
        have HX := Lib.hid hx
        have hc := hx.at_ (j := i) (by rw [HN.out]; exact hlt)
        have hnum := Lib.hid (HF.out.num (j := i) (by rw [HN.out]; exact hlt))
        obtain ⟨s, HS⟩ := name_it (l.getD i s0)
        rw [HS.out] at hc hnum
        have HE : Hid (eAt (slQ l) i = if isd s.fr = false then 1 else if 0 < i ∧ s.fr ≤ (l.getD (i - 1) s0).fr then 15 else if sg (ratOf s.rt) < 0 then 7 else 0) := Lib.hid (by rw [eAt_slQ, HS.out])
        have hca := hc.a
        have hcb := hc.b
        have hcc := hc.c
        have hcd := hc.d
        have HC := Lib.hid hc
        have c1 : Chg [] wr (wr.alloc (.cells #[.int .i64 s.fr, .bool s.rt.neg, .string s.rt.num, .string s.rt.den] 49)) := (Chg.refl _ _).alloc _
        have b1 := Blk4.alloc wr (.int .i64 s.fr) (.bool s.rt.neg) (.string s.rt.num) (.string s.rt.den) 49
        have HX1 := Lib.hid (HX.out.keep0 c1)
        clear hx hc
        replace hch := hch.then c1
        clear c1
        cases hd : isd s.fr with
        | false =>
          have hr : r = 1 := by
            have e1 : eAt (slQ l) i = 1 := by rw [HE.out, if_pos hd]
            rw [HR2.out, fE_hit HZ.out (by rw [e1]; decide) hlt, e1]
          subst hr
          have HD := Lib.hid hd
          clear hd
          go_wp2_with (go_at_call 33; (with_reducible refine (isDay_any s.fr _ false HD.out).mono ?_); rintro e w' ⟨rfl, hw⟩; obtain rfl := hw.symm; clear hw)
          go_ret
          exact ⟨rfl, hch⟩
        | true =>
          have HD := Lib.hid hd
          clear hd hca hcb hcc hcd
          have hsg := Lib.hid (fun w => SignN s.rt _ k w hnum.out (by have := HF.out.le; omega))
          obtain ⟨q, HQ⟩ := name_it (ratOf s.rt)
          rw [HQ.out] at hsg HE
          have hord : (¬ (0 < i ∧ s.fr ≤ (l.getD (i - 1) s0).fr)) → ∃ b, Hid (decide (sg q < 0) = b) ∧ (b = true → r = 7) ∧ (b = false → fE (eAt (slQ l)) (i + 1) = 0) := by
            intro hno
            refine ⟨_, Lib.hid rfl, fun hb => ?_, fun hb => ?_⟩
            · have e1 : eAt (slQ l) i = 7 := by rw [HE.out, HD.out, if_neg (by simp), if_neg hno, if_pos (of_decide_eq_true hb)]
              rw [HR2.out, fE_hit HZ.out (by rw [e1]; decide) hlt, e1]
            · have e1 : eAt (slQ l) i = 0 := by rw [HE.out, HD.out, if_neg (by simp), if_neg hno, if_neg (of_decide_eq_false hb)]
              simp only [fE]; rw [if_pos HZ.out, e1]
          have hbad : 0 < i ∧ s.fr ≤ (l.getD (i - 1) s0).fr → r = 15 := by
            intro hyes
            have e1 : eAt (slQ l) i = 15 := by rw [HE.out, HD.out, if_neg (by simp), if_pos hyes]
            rw [HR2.out, fE_hit HZ.out (by rw [e1]; decide) hlt, e1]
          have HORD := Lib.hid hord
          have HBAD := Lib.hid hbad
          have hca := HC.out.a
          have hcb := HC.out.b
          have hcc := HC.out.c
          have hcd := HC.out.d
          clear hord hbad
          go_wp2_with (go_at_call 33; (with_reducible refine (isDay_any s.fr _ true HD.out).mono ?_); rintro e w' ⟨rfl, hw⟩; obtain rfl := hw.symm; clear hw)
          clear hca hcb hcc hcd
          have hba := b1.c0
          have hbb := b1.c1
          have hbc := b1.c2
          have hbd := b1.c3
          by_cases hi0 : i = 0
          · obtain ⟨b, HB, hb1, hb2⟩ := HORD.out (by omega)
            subst hi0
            have d2 : decide ((0 : Int) < ((0 : Nat) : Int)) = false := by decide
            go_quiet (fail)
            cases b with
            | true =>
              obtain rfl := hb1 rfl
              have d3 := HB.out
              go_wp2_with (go_at_call 34; refine (hsg.out _).mono ?_; rintro e w1 ⟨rfl, c1⟩)
              go_ret
              exact ⟨rfl, (hch.drewN _).then c1⟩
            | false =>
              have d3 := HB.out
              have HB2 := Lib.hid (hb2 rfl)
              clear hb1 hb2 hba hbb hbc
              go_wp2_with (go_at_call 34; refine (hsg.out _).mono ?_; rintro e w1 ⟨rfl, c1⟩)
              go_roundw
              case rel => exact ⟨0 + 1, by omega, by go_num, HB2.out, (HX1.out.keep0 ((Chg.refl [] _).drewN _)).keep0 c1, (hch.drewN _).then c1⟩
              case measure => simp [intOf]; omega
          · have hp := HX1.out.at_ (j := i - 1) (by rw [HN.out]; omega)
            obtain ⟨p, HP⟩ := name_it (l.getD (i - 1) s0)
            rw [HP.out] at hp HORD HBAD
            have hpa := hp.a
            have d2 : decide ((0 : Int) < (i : Int)) = true := decide_eq_true (by omega)
            have d2n : decide (0 < i) = true := decide_eq_true (by omega)
            have ec : ((i - 1 : Nat) : Int) = (i : Int) - 1 := by omega
            have hidx : 0 ≤ (i : Int) - 1 := by omega
            have hidx2 : ((i : Int) - 1).toNat = i - 1 := by omega
            have hidx3 : (i : Int) - 1 < (n : Int) := by omega
            cases hle : decide (s.fr ≤ p.fr) with
            | true =>
              obtain rfl := HBAD.out ⟨by omega, of_decide_eq_true hle⟩
              go_quiet (fail)
              go_wp2_with fail
              go_ret
              exact ⟨rfl, hch.drewN _⟩
            | false =>
              obtain ⟨b, HB, hb1, hb2⟩ := HORD.out (fun h => absurd h.2 (of_decide_eq_false hle))
              go_quiet (fail)
              clear hle hpa
              cases b with
              | true =>
                obtain rfl := hb1 rfl
                have d3 := HB.out
                go_wp2_with (go_at_call 34; refine (hsg.out _).mono ?_; rintro e w1 ⟨rfl, c1⟩)
                go_ret
                exact ⟨rfl, (hch.drewN _).then c1⟩
              | false =>
                have d3 := HB.out
                have HB2 := Lib.hid (hb2 rfl)
                clear hb1 hb2 hba hbb hbc
                go_wp2_with (go_at_call 34; refine (hsg.out _).mono ?_; rintro e w1 ⟨rfl, c1⟩)
                go_roundw
                case rel => exact ⟨i + 1, by omega, by go_num, HB2.out, (HX1.out.keep0 ((Chg.refl [] _).drewN _)).keep0 c1, (hch.drewN _).then c1⟩
                case measure => simp [intOf]; omega
      · have hin : i = n := by omega
        subst hin
        have hr : r = 0 := by rw [HR2.out]; exact HZ.out
        subst hr
        go_wp2_with fail
        go_ret
        exact ⟨rfl, hch⟩
set_option maxRecDepth 20000 in
set_option maxHeartbeats 2000000 in
theorem rcheck_any (l : List St) (n k : Nat) (A : Option Addr) (cap : Nat) (w : World) (hn : l.length = n) (hm : n ≤ 1000000000) (hf : Fits l k) (hx : Sds w A l) :
    Calls Try.prog 15 #[.slice A n cap] w fun e w' => e = .returned (.int .i64 (chk (slQ l))) ∧ Chg [] w w' := by
  have hch : Chg [] w w := Chg.refl _ _
  obtain ⟨r, HR⟩ := name_it (chk (slQ l))
  rw [HR.out]
  have HN := Lib.hid hn
  have HF := Lib.hid hf
  clear hn hf
  by_cases h64 : 64 < n
  · have hr : r = 2 := by rw [← HR.out]; unfold chk; rw [slQ_length, if_pos (by rw [HN.out]; exact h64)]
    subst hr
    have d1 : decide ((64 : Int) < (n : Int)) = true := decide_eq_true (by omega)
    clear HR
    go_enter Try.func15, Try.ntmps15
    go_wp2_with fail
    go_ret
    exact ⟨rfl, hch⟩
  · have HR2 : Hid (r = fE (eAt (slQ l)) n) := Lib.hid (by rw [← HR.out]; unfold chk; rw [slQ_length, if_neg (by rw [HN.out]; exact h64), HN.out])
    have d1 : decide ((64 : Int) < (n : Int)) = false := decide_eq_false (by omega)
    clear HR h64
    go_enter Try.func15, Try.ntmps15
    go_wp2_with fail
    clear d1
    go_loopw [3] (fun iv wr => ∃ i : Nat, i ≤ n ∧ iv = .int .i64 i ∧ fE (eAt (slQ l)) i = 0 ∧ Sds wr A l ∧ Chg [] w wr) (fun iv _ => n - (intOf iv).toNat)
    case atStart => exact ⟨0, Nat.zero_le _, rfl, rfl, hx, hch⟩
    case round =>
      clear hx hch
      obtain ⟨i, hi, rfl, hz, hx, hch⟩ := hrel
      have HZ := Lib.hid hz
      clear hz
      by_cases hlt : i < n
      · obtain ⟨g, o, rfl, hgl⟩ := hx.form (by rw [HN.out]; omega)
        have HX := Lib.hid hx
        have hc := hx.at_ (j := i) (by rw [HN.out]; exact hlt)
        have hnum := Lib.hid (HF.out.num (j := i) (by rw [HN.out]; exact hlt))
        obtain ⟨s, HS⟩ := name_it (l.getD i s0)
        rw [HS.out] at hc hnum
        have HE : Hid (eAt (slQ l) i = if isd s.fr = false then 1 else if 0 < i ∧ s.fr ≤ (l.getD (i - 1) s0).fr then 15 else if sg (ratOf s.rt) < 0 then 7 else 0) := Lib.hid (by rw [eAt_slQ, HS.out])
        have hca := hc.a
        have hcb := hc.b
        have hcc := hc.c
        have hcd := hc.d
        have HC := Lib.hid hc
        have HX1 := Lib.hid (HX.out.keep0 (Chg.refl [] _))
        have i1 : (0 : Int) ≤ (i : Int) := by omega
        have i2 : (i : Int) < (n : Int) := by omega
        clear hx hc
        cases hd : isd s.fr with
        | false =>
          have hr : r = 1 := by
            have e1 : eAt (slQ l) i = 1 := by rw [HE.out, if_pos hd]
            rw [HR2.out, fE_hit HZ.out (by rw [e1]; decide) hlt, e1]
          subst hr
          have HD := Lib.hid hd
          clear hd
          go_wp2_with (go_at_call 27; (with_reducible refine (rIsDay_any s.fr _ false HD.out).mono ?_); rintro e w' ⟨rfl, hw⟩; obtain rfl := hw.symm; clear hw)
          go_ret
          exact ⟨rfl, hch⟩
        | true =>
          have HD := Lib.hid hd
          clear hd hca hcb hcc hcd
          have hsg := Lib.hid (fun w => rSignN s.rt _ k w hnum.out (by have := HF.out.le; omega))
          obtain ⟨q, HQ⟩ := name_it (ratOf s.rt)
          rw [HQ.out] at hsg HE
          have hord : (¬ (0 < i ∧ s.fr ≤ (l.getD (i - 1) s0).fr)) → ∃ b, Hid (decide (sg q < 0) = b) ∧ (b = true → r = 7) ∧ (b = false → fE (eAt (slQ l)) (i + 1) = 0) := by
            intro hno
            refine ⟨_, Lib.hid rfl, fun hb => ?_, fun hb => ?_⟩
            · have e1 : eAt (slQ l) i = 7 := by rw [HE.out, HD.out, if_neg (by simp), if_neg hno, if_pos (of_decide_eq_true hb)]
              rw [HR2.out, fE_hit HZ.out (by rw [e1]; decide) hlt, e1]
            · have e1 : eAt (slQ l) i = 0 := by rw [HE.out, HD.out, if_neg (by simp), if_neg hno, if_neg (of_decide_eq_false hb)]
              simp only [fE]; rw [if_pos HZ.out, e1]
          have hbad : 0 < i ∧ s.fr ≤ (l.getD (i - 1) s0).fr → r = 15 := by
            intro hyes
            have e1 : eAt (slQ l) i = 15 := by rw [HE.out, HD.out, if_neg (by simp), if_pos hyes]
            rw [HR2.out, fE_hit HZ.out (by rw [e1]; decide) hlt, e1]
          have HORD := Lib.hid hord
          have HBAD := Lib.hid hbad
          have hca := HC.out.a
          have hcb := HC.out.b
          have hcc := HC.out.c
          have hcd := HC.out.d
          clear hord hbad
          go_wp2_with (go_at_call 27; (with_reducible refine (rIsDay_any s.fr _ true HD.out).mono ?_); rintro e w' ⟨rfl, hw⟩; obtain rfl := hw.symm; clear hw)
          by_cases hi0 : i = 0
          · obtain ⟨b, HB, hb1, hb2⟩ := HORD.out (by omega)
            subst hi0
            have d2 : decide ((0 : Int) < ((0 : Nat) : Int)) = false := by decide
            go_quiet (fail)
            cases b with
            | true =>
              obtain rfl := hb1 rfl
              have d3 := HB.out
              go_wp2_with (go_at_call 35; refine (hsg.out _).mono ?_; rintro e w1 ⟨rfl, c1⟩)
              go_ret
              exact ⟨rfl, (hch.drewN _).then c1⟩
            | false =>
              have d3 := HB.out
              have HB2 := Lib.hid (hb2 rfl)
              clear hb1 hb2
              go_wp2_with (go_at_call 35; refine (hsg.out _).mono ?_; rintro e w1 ⟨rfl, c1⟩)
              go_roundw
              case rel => exact ⟨0 + 1, by omega, by go_num, HB2.out, (HX1.out.keep0 ((Chg.refl [] _).drewN _)).keep0 c1, (hch.drewN _).then c1⟩
              case measure => simp [intOf]; omega
          · have hp := HX1.out.at_ (j := i - 1) (by rw [HN.out]; omega)
            obtain ⟨p, HP⟩ := name_it (l.getD (i - 1) s0)
            rw [HP.out] at hp HORD HBAD
            have hpa := hp.a
            have d2 : decide ((0 : Int) < (i : Int)) = true := decide_eq_true (by omega)
            have d2n : decide (0 < i) = true := decide_eq_true (by omega)
            have ec : ((i - 1 : Nat) : Int) = (i : Int) - 1 := by omega
            have hidx : 0 ≤ (i : Int) - 1 := by omega
            have hidx2 : ((i : Int) - 1).toNat = i - 1 := by omega
            have hidx3 : (i : Int) - 1 < (n : Int) := by omega
            cases hle : decide (s.fr ≤ p.fr) with
            | true =>
              obtain rfl := HBAD.out ⟨by omega, of_decide_eq_true hle⟩
              go_quiet (fail)
              go_wp2_with fail
              go_ret
              exact ⟨rfl, hch.drewN _⟩
            | false =>
              obtain ⟨b, HB, hb1, hb2⟩ := HORD.out (fun h => absurd h.2 (of_decide_eq_false hle))
              go_quiet (fail)
              clear hle hpa hca
              cases b with
              | true =>
                obtain rfl := hb1 rfl
                have d3 := HB.out
                go_wp2_with (go_at_call 35; refine (hsg.out _).mono ?_; rintro e w1 ⟨rfl, c1⟩)
                go_ret
                exact ⟨rfl, (hch.drewN _).then c1⟩
              | false =>
                have d3 := HB.out
                have HB2 := Lib.hid (hb2 rfl)
                clear hb1 hb2
                go_wp2_with (go_at_call 35; refine (hsg.out _).mono ?_; rintro e w1 ⟨rfl, c1⟩)
                go_roundw
                case rel => exact ⟨i + 1, by omega, by go_num, HB2.out, (HX1.out.keep0 ((Chg.refl [] _).drewN _)).keep0 c1, (hch.drewN _).then c1⟩
                case measure => simp [intOf]; omega
      · have hin : i = n := by omega
        subst hin
        have hr : r = 0 := by rw [HR2.out]; exact HZ.out
        subst hr
        go_wp2_with fail
        go_ret
        exact ⟨rfl, hch⟩
end Go.Proofs.Ytcfejphpflafiaa
