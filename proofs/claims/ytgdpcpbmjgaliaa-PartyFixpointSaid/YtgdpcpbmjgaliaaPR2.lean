/-
  Party: the reference's CheckParties.
-/
import Derived.Test.YtgdpcpbmjgaliaaPR1
namespace Go.Proofs.Ytgdpcpbmjgaliaa
open Go.RowKit Nd

def q1 : Q3 := ⟨false, ⟨#[1]⟩, ⟨#[]⟩⟩
set_option maxRecDepth 20000 in
theorem rOne_any (w : World) : Calls Try.prog 33 #[] w fun e w' => e = .returned (.agg #[.bool q1.neg, .string q1.num, .string q1.den]) ∧ Chg [] w w' := by
  go_enter Try.func33, Try.ntmps33
  go_wp2
  exact bodyPost_ret (v := .agg #[.bool false, .string ⟨#[1]⟩, .string ⟨#[]⟩]) (by simp [results, Try.results33, go_sem]) rfl ⟨rfl, (Chg.refl _ _).alloc _⟩
theorem Val_q1 : Val q1 1 1 := ⟨⟨rfl, Is_one.2 rfl, Is_zero.2 rfl⟩, ⟨by decide, by decide⟩⟩
theorem two_no {n : Nat} {a b : Int} (h : ¬ 0 ≤ a ∨ ¬ a < (n : Int) ∨ ¬ 0 ≤ b ∨ ¬ b < (n : Int) ∨ a = b) : twoB n a b = false := by
  cases ht : twoB n a b
  · rfl
  · obtain ⟨h1, h2, h3⟩ := twoB_iff.1 ht
    unfold inB at h1 h2
    simp only [Bool.and_eq_true, decide_eq_true_eq] at h1 h2
    omega
theorem two_yes {n : Nat} {a b : Int} (h1 : 0 ≤ a) (h2 : a < (n : Int)) (h3 : 0 ≤ b) (h4 : b < (n : Int)) (h5 : a ≠ b) : twoB n a b = true := by
  refine twoB_iff.2 ⟨?_, ?_, h5⟩ <;> · unfold inB; simp only [Bool.and_eq_true, decide_eq_true_eq]; exact ⟨by omega, by omega⟩
theorem stE_two {K : List Zn} {s : Stk} (h : twoB K.length s.ow s.co = false) : stE K s = 14 := by unfold stE; rw [if_pos (.inl h)]
theorem stE_kind {K : List Zn} {s : Stk} (h : kdA K s.co ≠ 2) : stE K s = 14 := by unfold stE; rw [if_pos (.inr h)]
theorem stE_sign {K : List Zn} {s : Stk} (h : twoB K.length s.ow s.co = true) (h2 : kdA K s.co = 2) : stE K s = if sg (ratOf s.vt) ≤ 0 then 1 else 0 := by unfold stE; rw [if_neg (by simp [h, h2])]
/-- Whether one of the first companies has more than all votes. -/
def ovrN (P : PD) (c : Nat) : Bool := (List.range c).any fun k => decide (1 < hQ P (fun _ => true) k P.m)
theorem ovrN_step (P : PD) (c : Nat) : ovrN P (c + 1) = (ovrN P c || decide (1 < hQ P (fun _ => true) c P.m)) := by unfold ovrN; rw [List.range_succ, List.any_append]; simp
theorem ovrN_hit {P : PD} {c : Nat} (h : c < P.n) (h2 : 1 < hQ P (fun _ => true) c P.m) : ovr P = true := ovr_iff.2 ⟨c, h, h2⟩

set_option maxRecDepth 20000 in
set_option maxHeartbeats 8000000 in
theorem rckp_any (p : PV) (k : Nat) (w : World) (hp : p.At w) (hF : FitS p.S k) :
    Calls Try.prog 15 #[p.val] w fun e w' => e = .returned (.int .i64 (ckP p.K p.S p.T)) ∧ Chg [] w w' := by
  have b1 := box_p p w
  have hch := chg_p p w
  replace hp := hp.keep0 hch
  have HSG := Lib.hid (fun i (h : i < p.S.length) w => rSignN (p.S.getD i stk0).vt _ k w (hF.num h) (by have := hF.le; omega))
  have HVO := Lib.hid (fun c w (h1 : p.At w) (h2 : p.m ≤ 64) (h3 : GoodS p.K p.S) => rvotes_any p k [] 0 none 0 (-1) c (fun _ => true) w h1 h2 h3 hF rfl (by omega) (SZn.nil _ _) (fun _ _ => rfl))
  have HLE : Hid (∀ z q w, Val z q (KV k 64) → Calls Try.prog 32 #[.agg #[.bool q1.neg, .string q1.num, .string q1.den], .agg #[.bool z.neg, .string z.num, .string z.den]] w fun e w' => e = .returned (.bool (decide (1 < q))) ∧ Chg [] w w') := Lib.hid fun z q w h => rLess_any q1 z 1 q 1 (KV k 64) w Val_q1 h (by have := hF.le; unfold KV; omega)
  have HLO := Lib.hid (ck_long (K := p.K) (S := p.S) (T := p.T))
  have HKI := Lib.hid (ck_kind (K := p.K) (S := p.S) (T := p.T))
  have HST := Lib.hid (fun i h1 h2 h3 => ck_stake (K := p.K) (S := p.S) (T := p.T) (i := i) h1 h2 h3)
  have HSU := Lib.hid (ck_sum (K := p.K) (S := p.S) (T := p.T))
  have HTI := Lib.hid (ck_tie (K := p.K) (S := p.S) (T := p.T))
  obtain ⟨r, HR⟩ := name_it (ckP p.K p.S p.T)
  rw [HR.out] at HLO HKI HST HSU HTI ⊢
  have HKN : Hid (p.K.length = p.n) := Lib.hid hp.kn
  have HSN : Hid (p.S.length = p.m) := Lib.hid hp.sn
  have HTN : Hid (p.T.length = p.t) := Lib.hid hp.tn
  have HPM : Hid ((pdOf p.K p.S).m = p.m) := Lib.hid hp.sn
  have HPN : Hid ((pdOf p.K p.S).n = p.n) := Lib.hid hp.kn
  rw [HKN.out, HSN.out, HTN.out] at HLO HKI HST HSU HTI
  rw [HSN.out] at HSG
  have hkb := hp.kb
  have hsb := hp.sb
  have htb := hp.tb
  clear HR hF
  obtain ⟨K, S, T, n, m, tn, AK, AS, AT, cK, cS, cT⟩ := p
  dsimp only at *
  have b1c0 := b1.c0
  have b1c1 := b1.c1
  have b1c2 := b1.c2
  by_cases hl1 : 32 < n
  · have d1 : decide ((32 : Int) < (n : Int)) = true := decide_eq_true (by omega)
    obtain rfl : r = 2 := HLO.out (.inl hl1)
    clear hl1
    go_enter Try.func15, Try.ntmps15
    go_wp2_with fail
    go_ret
    exact ⟨rfl, hch⟩
  · have d1 : decide ((32 : Int) < (n : Int)) = false := decide_eq_false (by omega)
    by_cases hl2 : 64 < m
    · have d2 : decide ((64 : Int) < (m : Int)) = true := decide_eq_true (by omega)
      obtain rfl : r = 2 := HLO.out (.inr (.inl hl2))
      clear hl1 hl2
      go_enter Try.func15, Try.ntmps15
      go_wp2_with fail
      go_ret
      exact ⟨rfl, hch⟩
    · have d2 : decide ((64 : Int) < (m : Int)) = false := decide_eq_false (by omega)
      by_cases hl3 : 64 < tn
      · have d3 : decide ((64 : Int) < (tn : Int)) = true := decide_eq_true (by omega)
        obtain rfl : r = 2 := HLO.out (.inr (.inr hl3))
        clear hl1 hl2 hl3
        go_enter Try.func15, Try.ntmps15
        go_wp2_with fail
        go_ret
        exact ⟨rfl, hch⟩
      · have d3 : decide ((64 : Int) < (tn : Int)) = false := decide_eq_false (by omega)
        have HL : Hid (¬ (32 < n ∨ 64 < m ∨ 64 < tn)) := Lib.hid (by omega)
        have hm64 : m ≤ 64 := by omega
        have hn32 : n ≤ 32 := by omega
        have ht64 : tn ≤ 64 := by omega
        clear hl1 hl2 hl3 HLO
        go_enter Try.func15, Try.ntmps15
        go_wp2_with fail
        clear b1c0 b1c1 b1c2 d1 d2 d3
        obtain ⟨w0, HW0⟩ := name_it (w.alloc (.cells #[.slice AK n cK, .slice AS m cS, .slice AT tn cT] 26))
        rw [HW0.out] at b1 hp hch ⊢
        clear HW0
        obtain ⟨g0, HG0⟩ := name_it w.heap.size
        rw [HG0.out] at b1 ⊢
        go_loopw [4] (fun iv wr => ∃ i : Nat, i ≤ n ∧ iv = .int .i64 i ∧ kE (K.take i) = false ∧ Blk3 wr g0 (.slice AK n cK) (.slice AS m cS) (.slice AT tn cT) ∧ PV.At ⟨K, S, T, n, m, tn, AK, AS, AT, cK, cS, cT⟩ wr ∧ Chg [] w wr) (fun iv _ => n - (intOf iv).toNat)
        case atStart => exact ⟨0, Nat.zero_le _, rfl, rfl, b1, hp, hch⟩
        case round =>
          clear b1 hp hch
          obtain ⟨i, hi, rfl, hz, b1, hp, hch⟩ := hrel
          have HZ := Lib.hid hz
          clear hz
          by_cases hlt : i < n
          · obtain ⟨g, o, rfl, hgl⟩ := hp.k.form (by rw [HKN.out]; exact Nat.lt_of_le_of_lt (Nat.zero_le _) hlt)
            have hcx := (hp.k.at_ (j := i) (by rw [HKN.out]; exact hlt)).c0
            rw [Nat.mul_one] at hcx
            have HTK : Hid (kE (K.take (i + 1)) = (kE (K.take i) || (decide ((K.getD i zn0).x ≠ 1) && decide ((K.getD i zn0).x ≠ 2)))) := Lib.hid (any_take2 _ K zn0 (by rw [HKN.out]; exact hlt))
            have HHT : Hid ((K.getD i zn0).x ≠ 1 → (K.getD i zn0).x ≠ 2 → kE K = true) := Lib.hid fun h1 h2 => any_hit2 _ K zn0 (by rw [HKN.out]; exact hlt) (by show (decide _ && decide _) = true; rw [decide_eq_true h1, decide_eq_true h2]; rfl)
            obtain ⟨x, HX⟩ := name_it ((K.getD i zn0).x)
            rw [HX.out] at hcx HTK HHT
            have b1c0 := b1.c0
            have i1 : (0 : Int) ≤ (i : Int) := by omega
            have i2 : (i : Int) < (n : Int) := by omega
            by_cases h1 : x = 1
            · have HZ2 : Hid (kE (K.take (i + 1)) = false) := Lib.hid (by rw [HTK.out, HZ.out]; simp [h1])
              subst h1
              go_wp2_with fail
              go_roundw
              case rel => exact ⟨i + 1, by omega, by go_num, HZ2.out, b1, hp, hch⟩
              case measure => simp [intOf]; omega
            · have d1 : (x == 1) = false := by simp [h1]
              by_cases h2 : x = 2
              · have HZ2 : Hid (kE (K.take (i + 1)) = false) := Lib.hid (by rw [HTK.out, HZ.out]; simp [h2])
                subst h2
                clear h1 d1
                go_wp2_with fail
                go_roundw
                case rel => exact ⟨i + 1, by omega, by go_num, HZ2.out, b1, hp, hch⟩
                case measure => simp [intOf]; omega
              · have d2 : (x == 2) = false := by simp [h2]
                have d3 : (x != 1) = true := by simp [h1]
                have d4 : (x != 2) = true := by simp [h2]
                obtain rfl : r = 1 := HKI.out HL.out (HHT.out h1 h2)
                go_wp2_with fail
                go_ret
                exact ⟨rfl, hch⟩
          · obtain rfl : i = n := by omega
            have HKE : Hid (kE K = false) := Lib.hid (by have := HZ.out; rwa [List.take_of_length_le (by rw [HKN.out]; exact Nat.le_refl _)] at this)
            clear HZ HKI
            go_wp2_with fail
            go_loopw [5] (fun iv wr => ∃ j : Nat, j ≤ m ∧ iv = .int .i64 j ∧ fE (sE K S) j = 0 ∧ Blk3 wr g0 (.slice AK i cK) (.slice AS m cS) (.slice AT tn cT) ∧ PV.At ⟨K, S, T, i, m, tn, AK, AS, AT, cK, cS, cT⟩ wr ∧ Chg [] w wr) (fun iv _ => m - (intOf iv).toNat)
            case atStart => exact ⟨0, Nat.zero_le _, rfl, rfl, b1, hp, hch⟩
            case round =>
              clear b1 hp hch
              obtain ⟨j, hj, rfl, hz, b1, hp, hch⟩ := hrel
              have HZ := Lib.hid hz
              clear hz
              have b1c0 := b1.c0
              have b1c1 := b1.c1
              by_cases hlt : j < m
              · obtain ⟨g, o, rfl, hgl⟩ := hp.s.form (by rw [HSN.out]; exact Nat.lt_of_le_of_lt (Nat.zero_le _) hlt)
                have hcx := hp.s.at_ (j := j) (by rw [HSN.out]; exact hlt)
                have HSJ := Lib.hid (HSG.out j hlt)
                have HFE : Hid (fE (sE K S) (j + 1) = stE K (S.getD j stk0)) := Lib.hid (by simp only [fE]; rw [if_pos HZ.out]; rfl)
                have HSTJ : Hid (stE K (S.getD j stk0) ≠ 0 → r = stE K (S.getD j stk0)) := Lib.hid (fun h => HST.out j HL.out HKE.out hlt HZ.out h)
                obtain ⟨t, HT⟩ := name_it (S.getD j stk0)
                rw [HT.out] at hcx HSJ HFE HSTJ
                have HTW : Hid (twoB i t.ow t.co = false → stE K t = 14) := Lib.hid fun h => stE_two (by rw [HKN.out]; exact h)
                have HKD : Hid (kdA K t.co ≠ 2 → stE K t = 14) := Lib.hid stE_kind
                have HSI : Hid (twoB i t.ow t.co = true → kdA K t.co = 2 → stE K t = if sg (ratOf t.vt) ≤ 0 then 1 else 0) := Lib.hid fun h => stE_sign (by rw [HKN.out]; exact h)
                have HKA : Hid (kdA K t.co = (K.getD t.co.toNat zn0).x) := Lib.hid rfl
                obtain ⟨v, HV⟩ := name_it (stE K t)
                rw [HV.out] at HFE HSTJ HTW HKD HSI
                obtain ⟨ow, HOW⟩ := name_it t.ow
                obtain ⟨co, HCO⟩ := name_it t.co
                rw [HOW.out] at HTW HSI
                rw [HCO.out] at HTW HKD HSI HKA
                obtain ⟨a0, a1, a2, a3, a4, -⟩ := hcx
                rw [HOW.out] at a0
                rw [HCO.out] at a1
                have j1 : (0 : Int) ≤ (j : Int) := by omega
                have j2 : (j : Int) < (m : Int) := by omega
                by_cases hs3 : ow < 0
                · have e1 : decide (ow < 0) = true := decide_eq_true hs3
                  have c4 : Chg [] wr (wr.alloc (.cells #[.int .i64 ow, .int .i64 co, .bool t.vt.neg, .string t.vt.num, .string t.vt.den] 36)) := (Chg.refl _ _).alloc _
                  have b6 := BlkStk.alloc wr (.int .i64 ow) (.int .i64 co) (.bool t.vt.neg) (.string t.vt.num) (.string t.vt.den) 36
                  replace b1 := b1.keep0 c4
                  replace hp := hp.keep0 c4
                  replace hch := hch.then c4
                  have b6c0 := b6.c0
                  have b6c1 := b6.c1
                  have b6c2 := b6.c2
                  have b6c3 := b6.c3
                  have b6c4 := b6.c4
                  have b1c0s := b1.c0
                  clear c4
                  have HV14 : Hid (v = 14) := Lib.hid (HTW.out (two_no (by omega)))
                  obtain rfl : r = 14 := by rw [HSTJ.out (by rw [HV14.out]; decide), HV14.out]
                  go_wp2_with fail
                  go_ret
                  exact ⟨rfl, hch⟩
                · have e1 : decide (ow < 0) = false := decide_eq_false hs3
                  by_cases hs2 : (i : Int) ≤ ow
                  · have e2 : decide ((i : Int) ≤ ow) = true := decide_eq_true hs2
                    have c4 : Chg [] wr (wr.alloc (.cells #[.int .i64 ow, .int .i64 co, .bool t.vt.neg, .string t.vt.num, .string t.vt.den] 36)) := (Chg.refl _ _).alloc _
                    have b6 := BlkStk.alloc wr (.int .i64 ow) (.int .i64 co) (.bool t.vt.neg) (.string t.vt.num) (.string t.vt.den) 36
                    replace b1 := b1.keep0 c4
                    replace hp := hp.keep0 c4
                    replace hch := hch.then c4
                    have b6c0 := b6.c0
                    have b6c1 := b6.c1
                    have b6c2 := b6.c2
                    have b6c3 := b6.c3
                    have b6c4 := b6.c4
                    have b1c0s := b1.c0
                    clear c4
                    have HV14 : Hid (v = 14) := Lib.hid (HTW.out (two_no (by omega)))
                    obtain rfl : r = 14 := by rw [HSTJ.out (by rw [HV14.out]; decide), HV14.out]
                    go_wp2_with fail
                    go_ret
                    exact ⟨rfl, hch⟩
                  · have e2 : decide ((i : Int) ≤ ow) = false := decide_eq_false hs2
                    by_cases hs1 : co < 0
                    · have e3 : decide (co < 0) = true := decide_eq_true hs1
                      have c4 : Chg [] wr (wr.alloc (.cells #[.int .i64 ow, .int .i64 co, .bool t.vt.neg, .string t.vt.num, .string t.vt.den] 36)) := (Chg.refl _ _).alloc _
                      have b6 := BlkStk.alloc wr (.int .i64 ow) (.int .i64 co) (.bool t.vt.neg) (.string t.vt.num) (.string t.vt.den) 36
                      replace b1 := b1.keep0 c4
                      replace hp := hp.keep0 c4
                      replace hch := hch.then c4
                      have b6c0 := b6.c0
                      have b6c1 := b6.c1
                      have b6c2 := b6.c2
                      have b6c3 := b6.c3
                      have b6c4 := b6.c4
                      have b1c0s := b1.c0
                      clear c4
                      have HV14 : Hid (v = 14) := Lib.hid (HTW.out (two_no (by omega)))
                      obtain rfl : r = 14 := by rw [HSTJ.out (by rw [HV14.out]; decide), HV14.out]
                      go_wp2_with fail
                      go_ret
                      exact ⟨rfl, hch⟩
                    · have e3 : decide (co < 0) = false := decide_eq_false hs1
                      by_cases hs0 : (i : Int) ≤ co
                      · have e4 : decide ((i : Int) ≤ co) = true := decide_eq_true hs0
                        have c4 : Chg [] wr (wr.alloc (.cells #[.int .i64 ow, .int .i64 co, .bool t.vt.neg, .string t.vt.num, .string t.vt.den] 36)) := (Chg.refl _ _).alloc _
                        have b6 := BlkStk.alloc wr (.int .i64 ow) (.int .i64 co) (.bool t.vt.neg) (.string t.vt.num) (.string t.vt.den) 36
                        replace b1 := b1.keep0 c4
                        replace hp := hp.keep0 c4
                        replace hch := hch.then c4
                        have b6c0 := b6.c0
                        have b6c1 := b6.c1
                        have b6c2 := b6.c2
                        have b6c3 := b6.c3
                        have b6c4 := b6.c4
                        have b1c0s := b1.c0
                        clear c4
                        have HV14 : Hid (v = 14) := Lib.hid (HTW.out (two_no (by omega)))
                        obtain rfl : r = 14 := by rw [HSTJ.out (by rw [HV14.out]; decide), HV14.out]
                        go_wp2_with fail
                        go_ret
                        exact ⟨rfl, hch⟩
                      · have e4 : decide ((i : Int) ≤ co) = false := decide_eq_false hs0
                        obtain ⟨c, HCN⟩ : ∃ c : Nat, Hid (co = (c : Int)) := ⟨co.toNat, Lib.hid (by omega)⟩
                        have hcn : c < i := by have := HCN.out; omega
                        obtain ⟨gk, ok, rfl, hgk⟩ := hp.k.form (by rw [HKN.out]; exact Nat.lt_of_le_of_lt (Nat.zero_le _) hcn)
                        have hck := (hp.k.at_ (j := c) (by rw [HKN.out]; exact hcn))
                        rw [Nat.mul_one] at hck
                        rw [HCN.out, Int.toNat_natCast] at HKA
                        obtain ⟨kd, HKDV⟩ := name_it ((K.getD c zn0).x)
                        have hckc : CZn wr gk (ok + c) ⟨kd⟩ := ⟨by rw [← HKDV.out]; exact hck.c0, hck.l⟩
                        rw [HKDV.out] at HKA
                        rw [HCN.out] at a1 HTW HKD HSI e3 e4
                        have HINR : Hid (0 ≤ ow ∧ ow < (i : Int)) := Lib.hid (by omega)
                        have k1 : (0 : Int) ≤ (c : Int) := by omega
                        have k2 : (c : Int) < (i : Int) := by omega
                        have e3n : decide ((c : Int) < 0) = false := decide_eq_false (by omega)
                        have e4n : decide ((i : Int) ≤ (c : Int)) = false := decide_eq_false (by omega)
                        have e4m : decide (i ≤ c) = false := decide_eq_false (by omega)
                        clear hck HCN
                        by_cases hkd : kd = 2
                        · by_cases hoc : ow = (c : Int)
                          · subst hoc
                            have c4 : Chg [] wr (wr.alloc (.cells #[.int .i64 (c : Int), .int .i64 (c : Int), .bool t.vt.neg, .string t.vt.num, .string t.vt.den] 36)) := (Chg.refl _ _).alloc _
                            have b6 := BlkStk.alloc wr (.int .i64 (c : Int)) (.int .i64 (c : Int)) (.bool t.vt.neg) (.string t.vt.num) (.string t.vt.den) 36
                            replace b1 := b1.keep0 c4
                            replace hp := hp.keep0 c4
                            replace hch := hch.then c4
                            have b6c0 := b6.c0
                            have b6c1 := b6.c1
                            have b6c2 := b6.c2
                            have b6c3 := b6.c3
                            have b6c4 := b6.c4
                            have b1c0s := b1.c0
                            clear c4
                            have hck0 := (hckc.keep0 ((Chg.refl [] _).alloc (.cells #[.int .i64 (c : Int), .int .i64 (c : Int), .bool t.vt.neg, .string t.vt.num, .string t.vt.den] 36))).c0
                            subst hkd
                            have HV14 : Hid (v = 14) := Lib.hid (HTW.out (two_no (.inr (.inr (.inr (.inr rfl))))))
                            obtain rfl : r = 14 := by rw [HSTJ.out (by rw [HV14.out]; decide), HV14.out]
                            go_wp2_with fail
                            go_ret
                            exact ⟨rfl, hch⟩
                          · have f1 : (ow == (c : Int)) = false := by simp [hoc]
                            have HVS := Lib.hid (HSI.out (two_yes HINR.out.1 HINR.out.2 (by omega) (by omega) hoc) (by rw [HKA.out]; exact hkd))
                            have c4 : Chg [] wr (wr.alloc (.cells #[.int .i64 ow, .int .i64 (c : Int), .bool t.vt.neg, .string t.vt.num, .string t.vt.den] 36)) := (Chg.refl _ _).alloc _
                            have b6 := BlkStk.alloc wr (.int .i64 ow) (.int .i64 (c : Int)) (.bool t.vt.neg) (.string t.vt.num) (.string t.vt.den) 36
                            replace b1 := b1.keep0 c4
                            replace hp := hp.keep0 c4
                            replace hch := hch.then c4
                            have b6c0 := b6.c0
                            have b6c1 := b6.c1
                            have b6c2 := b6.c2
                            have b6c3 := b6.c3
                            have b6c4 := b6.c4
                            have b1c0s := b1.c0
                            clear c4
                            have hck0 := (hckc.keep0 ((Chg.refl [] _).alloc (.cells #[.int .i64 ow, .int .i64 (c : Int), .bool t.vt.neg, .string t.vt.num, .string t.vt.den] 36))).c0
                            subst hkd
                            obtain ⟨u, HU⟩ := name_it (sg (ratOf t.vt))
                            rw [HU.out] at HSJ HVS
                            go_wp2_with fail
                            refine (HSJ.out _).mono ?_
                            rintro e w3 ⟨rfl, c1⟩
                            replace b1 := b1.keep0 c1
                            replace hp := hp.keep0 c1
                            replace hch := hch.then c1
                            clear c1 b6c0 b6c1 b6c2 b6c3 b6c4 b1c0s hck0 b6 b1c0 b1c1 a0 a1 a2 a3 a4
                            by_cases hu : u ≤ 0
                            · have g1 : decide (u ≤ 0) = true := decide_eq_true hu
                              have HV1 : Hid (v = 1) := Lib.hid (by have := HVS.out; rw [if_pos hu] at this; exact this)
                              obtain rfl : r = 1 := by rw [HSTJ.out (by rw [HV1.out]; decide), HV1.out]
                              clear hu
                              go_wp2_with fail
                              go_ret
                              exact ⟨rfl, hch⟩
                            · have g1 : decide (u ≤ 0) = false := decide_eq_false hu
                              have HZ2 : Hid (fE (sE K S) (j + 1) = 0) := Lib.hid (by have := HVS.out; rw [if_neg hu] at this; rw [HFE.out]; exact this)
                              clear hu
                              go_wp2_with fail
                              go_roundw
                              case rel => exact ⟨j + 1, by omega, by go_num, HZ2.out, b1, hp, hch⟩
                              case measure => simp [intOf]; omega
                        · have f1 : (kd == 2) = false := by simp [hkd]
                          have f2 : (kd != 2) = true := by simp [hkd]
                          have c4 : Chg [] wr (wr.alloc (.cells #[.int .i64 ow, .int .i64 (c : Int), .bool t.vt.neg, .string t.vt.num, .string t.vt.den] 36)) := (Chg.refl _ _).alloc _
                          have b6 := BlkStk.alloc wr (.int .i64 ow) (.int .i64 (c : Int)) (.bool t.vt.neg) (.string t.vt.num) (.string t.vt.den) 36
                          replace b1 := b1.keep0 c4
                          replace hp := hp.keep0 c4
                          replace hch := hch.then c4
                          have b6c0 := b6.c0
                          have b6c1 := b6.c1
                          have b6c2 := b6.c2
                          have b6c3 := b6.c3
                          have b6c4 := b6.c4
                          have b1c0s := b1.c0
                          clear c4
                          have hck0 := (hckc.keep0 ((Chg.refl [] _).alloc (.cells #[.int .i64 ow, .int .i64 (c : Int), .bool t.vt.neg, .string t.vt.num, .string t.vt.den] 36))).c0
                          have HV14 : Hid (v = 14) := Lib.hid (HKD.out (by rw [HKA.out]; exact hkd))
                          obtain rfl : r = 14 := by rw [HSTJ.out (by rw [HV14.out]; decide), HV14.out]
                          go_wp2_with fail
                          go_ret
                          exact ⟨rfl, hch⟩
              · obtain rfl : j = m := by omega
                have HGS : Hid (GoodS K S) := Lib.hid (good_of (by rw [HSN.out]; exact HZ.out))
                clear HST HSG
                go_wp2_with fail
                clear b1c0 b1c1
                go_loopw [7] (fun iv wr => ∃ c : Nat, c ≤ i ∧ iv = .int .i64 c ∧ ovrN (pdOf K S) c = false ∧ Blk3 wr g0 (.slice AK i cK) (.slice AS j cS) (.slice AT tn cT) ∧ PV.At ⟨K, S, T, i, j, tn, AK, AS, AT, cK, cS, cT⟩ wr ∧ Chg [] w wr) (fun iv _ => i - (intOf iv).toNat)
                case atStart => exact ⟨0, Nat.zero_le _, rfl, rfl, b1, hp, hch⟩
                case round =>
                  clear b1 hp hch
                  obtain ⟨c, hc, rfl, hz, b1, hp, hch⟩ := hrel
                  have HZC := Lib.hid hz
                  clear hz
                  by_cases hlt : c < i
                  · have HVC := Lib.hid (fun w h => HVO.out c w h hm64 HGS.out)
                    have HSTP : Hid (ovrN (pdOf K S) (c + 1) = (ovrN (pdOf K S) c || decide (1 < hQ (pdOf K S) (fun _ => true) c j))) := Lib.hid (by rw [ovrN_step, HPM.out])
                    have HHIT : Hid (1 < hQ (pdOf K S) (fun _ => true) c j → ovr (pdOf K S) = true) := Lib.hid fun h => ovrN_hit (by rw [HPN.out]; exact hlt) (by rw [HPM.out]; exact h)
                    obtain ⟨q, HQ⟩ := name_it (hQ (pdOf K S) (fun _ => true) c j)
                    rw [HQ.out] at HVC HSTP HHIT
                    go_wp2_with fail
                    have c8 : Chg [] wr wr.drew := (Chg.refl _ _).drew
                    replace b1 := b1.keep0 c8
                    replace hp := hp.keep0 c8
                    replace hch := hch.then c8
                    clear c8
                    obtain ⟨y, HY⟩ := name_it (decide (1 < q))
                    go_region_held3 (fun w' => w'.cell? ⟨g0, 0, none⟩ = some (.slice AK i cK) ∧ w'.cell? ⟨g0, 1, none⟩ = some (.slice AS j cS) ∧ w'.cell? ⟨g0, 2, none⟩ = some (.slice AT tn cT)) (first | exact ⟨b1.c0, b1.c1, b1.c2⟩) (first
                      | (go_at_call 33
                         refine (rOne_any _).mono ?_
                         rintro e w6 ⟨rfl, c6⟩
                         replace b1 := b1.keep0 c6
                         replace hp := hp.keep0 c6
                         replace hch := hch.then c6
                         clear c6)
                      | (go_at_call 34
                         refine (HVC.out _ hp).mono ?_
                         rintro e w7 ⟨z, rfl, hz, c6⟩
                         have HZV := Lib.hid hz
                         replace b1 := b1.keep0 c6
                         replace hp := hp.keep0 c6
                         replace hch := hch.then c6
                         clear c6 hz)
                      | (go_at_call 32
                         refine (HLE.out z q _ HZV.out).mono ?_
                         rintro e w8 ⟨rfl, c6⟩
                         rw [HY.out]
                         replace b1 := b1.keep0 c6
                         replace hp := hp.keep0 c6
                         replace hch := hch.then c6
                         clear c6)
                      | fail)
                    all_goals
                      cases y with
                      | true =>
                        obtain rfl : r = 6 := HSU.out HL.out HKE.out HZ.out (HHIT.out (of_decide_eq_true HY.out))
                        go_wp2_with fail
                        go_ret
                        exact ⟨rfl, hch⟩
                      | false =>
                        have HZ2 : Hid (ovrN (pdOf K S) (c + 1) = false) := Lib.hid (by rw [HSTP.out, HZC.out, HY.out]; rfl)
                        go_wp2_with fail
                        go_roundw
                        case rel => exact ⟨c + 1, by omega, by go_num, HZ2.out, b1, hp, hch⟩
                        case measure => simp [intOf]; omega
                  · obtain rfl : c = i := by omega
                    have HOV : Hid (ovr (pdOf K S) = false) := Lib.hid (by have := HZC.out; unfold ovrN at this; unfold ovr; rw [HPN.out]; exact this)
                    have HR2 := Lib.hid (HTI.out HL.out HKE.out HZ.out HOV.out)
                    clear HSU HTI HVO
                    go_wp2_with fail
                    go_loopw [8] (fun iv wr => ∃ l : Nat, l ≤ tn ∧ iv = .int .i64 l ∧ tE c (T.take l) = false ∧ Blk3 wr g0 (.slice AK c cK) (.slice AS j cS) (.slice AT tn cT) ∧ PV.At ⟨K, S, T, c, j, tn, AK, AS, AT, cK, cS, cT⟩ wr ∧ Chg [] w wr) (fun iv _ => tn - (intOf iv).toNat)
                    case atStart => exact ⟨0, Nat.zero_le _, rfl, rfl, b1, hp, hch⟩
                    case round =>
                      clear b1 hp hch
                      obtain ⟨l, hl, rfl, hz, b1, hp, hch⟩ := hrel
                      have HZT := Lib.hid hz
                      clear hz
                      have b1c2 := b1.c2
                      by_cases hlt : l < tn
                      · obtain ⟨g, o, rfl, hgl⟩ := hp.t.form (by rw [HTN.out]; exact Nat.lt_of_le_of_lt (Nat.zero_le _) hlt)
                        have hcx := hp.t.at_ (j := l) (by rw [HTN.out]; exact hlt)
                        have HTK : Hid (tE c (T.take (l + 1)) = (tE c (T.take l) || !twoB c (T.getD l ti0).a (T.getD l ti0).b)) := Lib.hid (any_take2 _ T ti0 (by rw [HTN.out]; exact hlt))
                        have HHT : Hid (twoB c (T.getD l ti0).a (T.getD l ti0).b = false → tE c T = true) := Lib.hid fun h => any_hit2 _ T ti0 (by rw [HTN.out]; exact hlt) (by rw [h]; rfl)
                        have HRB : Hid (twoB c (T.getD l ti0).a (T.getD l ti0).b = false → r = 14) := Lib.hid fun h => by have := HR2.out; rw [HHT.out h] at this; exact this
                        obtain ⟨t, HT⟩ := name_it (T.getD l ti0)
                        rw [HT.out] at hcx HTK HRB
                        obtain ⟨ta, HTA⟩ := name_it t.a
                        obtain ⟨tb, HTB⟩ := name_it t.b
                        obtain ⟨a0, a1, -⟩ := hcx
                        rw [HTA.out] at a0 HTK HRB
                        rw [HTB.out] at a1 HTK HRB
                        have j1 : (0 : Int) ≤ (l : Int) := by omega
                        have j2 : (l : Int) < (tn : Int) := by omega
                        by_cases ht3 : ta < 0
                        · have e1 : decide (ta < 0) = true := decide_eq_true ht3
                          have c4 : Chg [] wr (wr.alloc (.cells #[.int .i64 ta, .int .i64 tb] 38)) := (Chg.refl _ _).alloc _
                          have b9 := BlkTi.alloc wr (.int .i64 ta) (.int .i64 tb) 38
                          replace b1 := b1.keep0 c4
                          replace hp := hp.keep0 c4
                          replace hch := hch.then c4
                          have b9c0 := b9.c0
                          have b9c1 := b9.c1
                          clear c4
                          obtain rfl : r = 14 := HRB.out (two_no (by omega))
                          go_wp2_with fail
                          go_ret
                          exact ⟨rfl, hch⟩
                        · have e1 : decide (ta < 0) = false := decide_eq_false ht3
                          by_cases ht2 : (c : Int) ≤ ta
                          · have e2 : decide ((c : Int) ≤ ta) = true := decide_eq_true ht2
                            have c4 : Chg [] wr (wr.alloc (.cells #[.int .i64 ta, .int .i64 tb] 38)) := (Chg.refl _ _).alloc _
                            have b9 := BlkTi.alloc wr (.int .i64 ta) (.int .i64 tb) 38
                            replace b1 := b1.keep0 c4
                            replace hp := hp.keep0 c4
                            replace hch := hch.then c4
                            have b9c0 := b9.c0
                            have b9c1 := b9.c1
                            clear c4
                            obtain rfl : r = 14 := HRB.out (two_no (by omega))
                            go_wp2_with fail
                            go_ret
                            exact ⟨rfl, hch⟩
                          · have e2 : decide ((c : Int) ≤ ta) = false := decide_eq_false ht2
                            by_cases ht1 : tb < 0
                            · have e3 : decide (tb < 0) = true := decide_eq_true ht1
                              have c4 : Chg [] wr (wr.alloc (.cells #[.int .i64 ta, .int .i64 tb] 38)) := (Chg.refl _ _).alloc _
                              have b9 := BlkTi.alloc wr (.int .i64 ta) (.int .i64 tb) 38
                              replace b1 := b1.keep0 c4
                              replace hp := hp.keep0 c4
                              replace hch := hch.then c4
                              have b9c0 := b9.c0
                              have b9c1 := b9.c1
                              clear c4
                              obtain rfl : r = 14 := HRB.out (two_no (by omega))
                              go_wp2_with fail
                              go_ret
                              exact ⟨rfl, hch⟩
                            · have e3 : decide (tb < 0) = false := decide_eq_false ht1
                              by_cases ht0 : (c : Int) ≤ tb
                              · have e4 : decide ((c : Int) ≤ tb) = true := decide_eq_true ht0
                                have c4 : Chg [] wr (wr.alloc (.cells #[.int .i64 ta, .int .i64 tb] 38)) := (Chg.refl _ _).alloc _
                                have b9 := BlkTi.alloc wr (.int .i64 ta) (.int .i64 tb) 38
                                replace b1 := b1.keep0 c4
                                replace hp := hp.keep0 c4
                                replace hch := hch.then c4
                                have b9c0 := b9.c0
                                have b9c1 := b9.c1
                                clear c4
                                obtain rfl : r = 14 := HRB.out (two_no (by omega))
                                go_wp2_with fail
                                go_ret
                                exact ⟨rfl, hch⟩
                              · have e4 : decide ((c : Int) ≤ tb) = false := decide_eq_false ht0
                                by_cases hab : ta = tb
                                · subst hab
                                  have c4 : Chg [] wr (wr.alloc (.cells #[.int .i64 ta, .int .i64 ta] 38)) := (Chg.refl _ _).alloc _
                                  have b9 := BlkTi.alloc wr (.int .i64 ta) (.int .i64 ta) 38
                                  replace b1 := b1.keep0 c4
                                  replace hp := hp.keep0 c4
                                  replace hch := hch.then c4
                                  have b9c0 := b9.c0
                                  have b9c1 := b9.c1
                                  clear c4
                                  obtain rfl : r = 14 := HRB.out (two_no (.inr (.inr (.inr (.inr rfl)))))
                                  go_wp2_with fail
                                  go_ret
                                  exact ⟨rfl, hch⟩
                                · have f1 : (ta == tb) = false := by simp [hab]
                                  have HZ2 : Hid (tE c (T.take (l + 1)) = false) := Lib.hid (by rw [HTK.out, HZT.out, two_yes (by omega) (by omega) (by omega) (by omega) hab]; rfl)
                                  have c4 : Chg [] wr (wr.alloc (.cells #[.int .i64 ta, .int .i64 tb] 38)) := (Chg.refl _ _).alloc _
                                  have b9 := BlkTi.alloc wr (.int .i64 ta) (.int .i64 tb) 38
                                  replace b1 := b1.keep0 c4
                                  replace hp := hp.keep0 c4
                                  replace hch := hch.then c4
                                  have b9c0 := b9.c0
                                  have b9c1 := b9.c1
                                  clear c4
                                  go_wp2_with fail
                                  go_roundw
                                  case rel => exact ⟨l + 1, by omega, by go_num, HZ2.out, b1, hp, hch⟩
                                  case measure => simp [intOf]; omega
                      · obtain rfl : l = tn := by omega
                        obtain rfl : r = 0 := by
                          have := HR2.out
                          have h2 := HZT.out
                          rw [List.take_of_length_le (by rw [HTN.out]; exact Nat.le_refl _)] at h2
                          rw [h2] at this; exact this
                        go_wp2_with fail
                        go_ret
                        exact ⟨rfl, hch⟩
end Go.Proofs.Ytgdpcpbmjgaliaa
