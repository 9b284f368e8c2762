/-
  Party: count, Check.
-/
import Derived.Test.YtgdpcpbmjgaliaaPX3
namespace Go.Proofs.Ytgdpcpbmjgaliaa
open Go.RowKit Nd

theorem any_take {α : Type} (f : α → Bool) (l : List α) (d : α) {i : Nat} (h : i < l.length) : (l.take (i + 1)).any f = ((l.take i).any f || f (l.getD i d)) := by
  rw [List.take_add_one, List.getElem?_eq_getElem h, List.any_append]
  simp [List.getD_eq_getElem?_getD, List.getElem?_eq_getElem h]
theorem any_hit {α : Type} (f : α → Bool) (l : List α) (d : α) {i : Nat} (h : i < l.length) (hf : f (l.getD i d) = true) : l.any f = true := by
  rw [List.any_eq_true]
  refine ⟨l.getD i d, ?_, hf⟩
  rw [List.getD_eq_getElem?_getD, List.getElem?_eq_getElem h]; exact List.getElem_mem _
/-- What count answers. -/
structure CntPost (w w' : World) (e : Ending) (p : PV) (r : Int) : Prop where
  good : r = 0 → ∃ gv gu, e = .returned (.tuple #[cntV p gv gu, .int .i64 0]) ∧ Cnt w' p (pdOf p.K p.S) gv gu ∧ w.heap.size ≤ gv ∧ w.heap.size ≤ gu
  bad : r ≠ 0 → e = .returned (.tuple #[.agg #[.slice none 0 0, .slice none 0 0, .slice none 0 0], .int .i64 r])
  ch : Chg [] w w'
abbrev badV (r : Int) : Value := .tuple #[.agg #[.slice none 0 0, .slice none 0 0, .slice none 0 0], .int .i64 r]

set_option maxRecDepth 20000 in
set_option maxHeartbeats 4000000 in
theorem count_any (p : PV) (k : Nat) (w : World) (hp : p.At w) (hF : FitS p.S k) :
    Calls Try.prog 30 #[p.val] w fun e w' => CntPost w w' e p (ckP p.K p.S p.T) := by
  have c1 : Chg [] (w.alloc (.cells #[.slice p.AK p.n p.cK, .slice p.AS p.m p.cS, .slice p.AT p.t p.cT] 26)) ((w.alloc (.cells #[.slice p.AK p.n p.cK, .slice p.AS p.m p.cS, .slice p.AT p.t p.cT] 26)).alloc (.cells #[.slice none 0 0, .slice none 0 0, .slice none 0 0] 63)) := (Chg.refl _ _).alloc _
  have b1 := (box_p p w).keep0 c1
  have b2 := Blk3.alloc (w.alloc (.cells #[.slice p.AK p.n p.cK, .slice p.AS p.m p.cS, .slice p.AT p.t p.cT] 26)) (.slice none 0 0) (.slice none 0 0) (.slice none 0 0) 63
  rw [World.size_alloc] at b2
  have hch := (chg_p p w).then c1
  clear c1
  replace hp := hp.keep0 hch
  have HCV := Lib.hid (fun w h1 h2 h3 h4 => countVotes_any p k w h1 h2 h3 h4 hF)
  have HEX := Lib.hid (fun gv gu w h1 h2 h3 h4 h5 => exceeded_any p k gv gu w h1 h2 h3 h4 h5 hF)
  have HSK := Lib.hid (fun i (h : i < p.S.length) w h1 => checkStake_any p (p.S.getD i stk0) k w h1 (hF.num h) hF.le)
  have HA2 := Lib.hid (fun x y w => areTwo_any p x y w)
  have HLO := Lib.hid (ck_long (K := p.K) (S := p.S) (T := p.T))
  have HKI := Lib.hid (ck_kind (K := p.K) (S := p.S) (T := p.T))
  have HST := Lib.hid (fun i h1 h2 h3 => ck_stake (K := p.K) (S := p.S) (T := p.T) (i := i) h1 h2 h3)
  have HSU := Lib.hid (ck_sum (K := p.K) (S := p.S) (T := p.T))
  have HTI := Lib.hid (ck_tie (K := p.K) (S := p.S) (T := p.T))
  obtain ⟨r, HR⟩ := name_it (ckP p.K p.S p.T)
  rw [HR.out] at HLO HKI HST HSU HTI ⊢
  have HKN : Hid (p.K.length = p.n) := Lib.hid hp.kn
  have HSN : Hid (p.S.length = p.m) := Lib.hid hp.sn
  have HTN : Hid (p.T.length = p.t) := Lib.hid hp.tn
  rw [HKN.out, HSN.out, HTN.out] at HLO HKI HST HSU HTI
  rw [HSN.out] at HSK
  have hkb := hp.kb
  have hsb := hp.sb
  have htb := hp.tb
  clear HR hF
  obtain ⟨K, S, T, n, m, tn, AK, AS, AT, cK, cS, cT⟩ := p
  dsimp only at *
  have b1c0 := b1.c0
  have b1c1 := b1.c1
  have b1c2 := b1.c2
  have b2c0 := b2.c0
  have b2c1 := b2.c1
  have b2c2 := b2.c2
  have b2f0 := b2.f0
  have b2f1 := b2.f1
  have b2f2 := b2.f2
  have b2l := b2.lt
  by_cases hl1 : 32 < n
  · have d1 : decide ((32 : Int) < (n : Int)) = true := decide_eq_true (by omega)
    obtain rfl : r = 2 := HLO.out (.inl hl1)
    clear hl1
    go_enter Try.func30, Try.ntmps30
    go_wp2_with fail
    exact bodyPost_ret (v := badV 2) (by simp [results, Try.results30, go_sem]) rfl ⟨fun h => absurd h (by decide), fun _ => rfl, ((Chg.refl _ _).alloc _).alloc _⟩
  · have d1 : decide ((32 : Int) < (n : Int)) = false := decide_eq_false (by omega)
    by_cases hl2 : 64 < m
    · have d2 : decide ((64 : Int) < (m : Int)) = true := decide_eq_true (by omega)
      obtain rfl : r = 2 := HLO.out (.inr (.inl hl2))
      clear hl1 hl2
      go_enter Try.func30, Try.ntmps30
      go_wp2_with fail
      exact bodyPost_ret (v := badV 2) (by simp [results, Try.results30, go_sem]) rfl ⟨fun h => absurd h (by decide), fun _ => rfl, ((Chg.refl _ _).alloc _).alloc _⟩
    · have d2 : decide ((64 : Int) < (m : Int)) = false := decide_eq_false (by omega)
      by_cases hl3 : 64 < tn
      · have d3 : decide ((64 : Int) < (tn : Int)) = true := decide_eq_true (by omega)
        obtain rfl : r = 2 := HLO.out (.inr (.inr hl3))
        clear hl1 hl2 hl3
        go_enter Try.func30, Try.ntmps30
        go_wp2_with fail
        exact bodyPost_ret (v := badV 2) (by simp [results, Try.results30, go_sem]) rfl ⟨fun h => absurd h (by decide), fun _ => rfl, ((Chg.refl _ _).alloc _).alloc _⟩
      · have d3 : decide ((64 : Int) < (tn : Int)) = false := decide_eq_false (by omega)
        have HL : Hid (¬ (32 < n ∨ 64 < m ∨ 64 < tn)) := Lib.hid (by omega)
        have hm64 : m ≤ 64 := by omega
        have hn32 : n ≤ 32 := by omega
        have ht64 : tn ≤ 64 := by omega
        clear hl1 hl2 hl3 HLO
        go_enter Try.func30, Try.ntmps30
        go_wp2_with fail
        clear b1c0 b1c1 b1c2 b2c0 b2c1 b2c2 b2f0 b2f1 b2f2 b2l d1 d2 d3
        obtain ⟨w0, HW0⟩ := name_it ((w.alloc (.cells #[.slice AK n cK, .slice AS m cS, .slice AT tn cT] 26)).alloc (.cells #[.slice none 0 0, .slice none 0 0, .slice none 0 0] 63))
        rw [HW0.out] at b1 b2 hp hch ⊢
        clear HW0
        go_loopw [32] (fun iv wr => ∃ i : Nat, i ≤ n ∧ iv = .int .i64 i ∧ kE (K.take i) = false ∧ Blk3 wr w.heap.size (.slice AK n cK) (.slice AS m cS) (.slice AT tn cT) ∧ Blk3 wr (w.heap.size + 1) (.slice none 0 0) (.slice none 0 0) (.slice none 0 0) ∧ PV.At ⟨K, S, T, n, m, tn, AK, AS, AT, cK, cS, cT⟩ wr ∧ Chg [] w wr) (fun iv _ => n - (intOf iv).toNat)
        case atStart => exact ⟨0, Nat.zero_le _, rfl, rfl, b1, b2, hp, hch⟩
        case round =>
          clear b1 b2 hp hch
          obtain ⟨i, hi, rfl, hz, b1, b2, hp, hch⟩ := hrel
          have HZ := Lib.hid hz
          clear hz
          by_cases hlt : i < n
          · obtain ⟨g, o, rfl, hgl⟩ := hp.k.form (by rw [HKN.out]; exact Nat.lt_of_le_of_lt (Nat.zero_le _) hlt)
            have hcx := (hp.k.at_ (j := i) (by rw [HKN.out]; exact hlt)).c0
            rw [Nat.mul_one] at hcx
            have HTK : Hid (kE (K.take (i + 1)) = (kE (K.take i) || (decide ((K.getD i zn0).x ≠ 1) && decide ((K.getD i zn0).x ≠ 2)))) := Lib.hid (any_take _ K zn0 (by rw [HKN.out]; exact hlt))
            have HHT : Hid ((K.getD i zn0).x ≠ 1 → (K.getD i zn0).x ≠ 2 → kE K = true) := Lib.hid fun h1 h2 => any_hit _ K zn0 (by rw [HKN.out]; exact hlt) (by show (decide _ && decide _) = true; rw [decide_eq_true h1, decide_eq_true h2]; rfl)
            obtain ⟨x, HX⟩ := name_it ((K.getD i zn0).x)
            rw [HX.out] at hcx HTK HHT
            have i1 : (0 : Int) ≤ (i : Int) := by omega
            have i2 : (i : Int) < (n : Int) := by omega
            by_cases h1 : x = 1
            · have HZ2 : Hid (kE (K.take (i + 1)) = false) := Lib.hid (by rw [HTK.out, HZ.out]; simp [h1])
              subst h1
              go_wp2_with fail
              go_roundw
              case rel => exact ⟨i + 1, by omega, by go_num, HZ2.out, b1, b2, hp, hch⟩
              case measure => simp [intOf]; omega
            · have d1 : (x == 1) = false := by simp [h1]
              by_cases h2 : x = 2
              · have HZ2 : Hid (kE (K.take (i + 1)) = false) := Lib.hid (by rw [HTK.out, HZ.out]; simp [h2])
                subst h2
                clear h1 d1
                go_wp2_with fail
                go_roundw
                case rel => exact ⟨i + 1, by omega, by go_num, HZ2.out, b1, b2, hp, hch⟩
                case measure => simp [intOf]; omega
              · have d2 : (x == 2) = false := by simp [h2]
                have d3 : (x != 1) = true := by simp [h1]
                have d4 : (x != 2) = true := by simp [h2]
                obtain rfl : r = 1 := HKI.out HL.out (HHT.out h1 h2)
                have b2c0 := b2.c0
                have b2c1 := b2.c1
                have b2c2 := b2.c2
                have b2f0 := b2.f0
                have b2f1 := b2.f1
                have b2f2 := b2.f2
                have b2l := b2.lt
                have S2 := b2.store (.slice none 0 0) (.slice none 0 0) (.slice none 0 0)
                have hchS := hch.store3 (.inr (show w.heap.size ≤ w.heap.size + 1 by omega)) (.slice none 0 0) (.slice none 0 0) (.slice none 0 0)
                go_wp2_with fail
                exact bodyPost_ret (v := badV 1) (by simp [results, Try.results30, go_sem, S2.c0, S2.c1, S2.c2]) rfl ⟨fun h => absurd h (by decide), fun _ => rfl, hchS⟩
          · obtain rfl : i = n := by omega
            have HKE : Hid (kE K = false) := Lib.hid (by have := HZ.out; rwa [List.take_of_length_le (by rw [HKN.out]; exact Nat.le_refl _)] at this)
            have b1c1 := b1.c1
            clear HZ HKI
            go_wp2_with fail
            clear b1c1
            go_loopw [47] (fun iv wr => ∃ j : Nat, j ≤ m ∧ iv = .int .i64 j ∧ fE (sE K S) j = 0 ∧ Blk3 wr w.heap.size (.slice AK i cK) (.slice AS m cS) (.slice AT tn cT) ∧ Blk3 wr (w.heap.size + 1) (.slice none 0 0) (.slice none 0 0) (.slice none 0 0) ∧ PV.At ⟨K, S, T, i, m, tn, AK, AS, AT, cK, cS, cT⟩ wr ∧ Chg [] w wr) (fun iv _ => m - (intOf iv).toNat)
            case atStart => exact ⟨0, Nat.zero_le _, rfl, rfl, b1, b2, hp, hch⟩
            case round =>
              clear b1 b2 hp hch
              obtain ⟨j, hj, rfl, hz, b1, b2, hp, hch⟩ := hrel
              have HZ := Lib.hid hz
              clear hz
              by_cases hlt : j < m
              · obtain ⟨g, o, rfl, hgl⟩ := hp.s.form (by rw [HSN.out]; exact Nat.lt_of_le_of_lt (Nat.zero_le _) hlt)
                have hcx := hp.s.at_ (j := j) (by rw [HSN.out]; exact hlt)
                have HSJ := Lib.hid (HSK.out j hlt)
                have HSE : Hid (sE K S j = stE K (S.getD j stk0)) := Lib.hid rfl
                have HFE : Hid (fE (sE K S) (j + 1) = sE K S j) := Lib.hid (by simp only [fE]; rw [if_pos HZ.out])
                have HSTJ := Lib.hid (HST.out j HL.out HKE.out hlt HZ.out)
                obtain ⟨t, HT⟩ := name_it (S.getD j stk0)
                rw [HT.out] at hcx HSJ HSE
                obtain ⟨v, HV⟩ := name_it (stE K t)
                rw [HV.out] at HSJ HSE
                rw [HSE.out] at HFE HSTJ
                obtain ⟨a0, a1, a2, a3, a4, -⟩ := hcx
                have c4 : Chg [] wr (wr.alloc (.cells #[.int .i64 t.ow, .int .i64 t.co, .bool t.vt.neg, .string t.vt.num, .string t.vt.den] 36)) := (Chg.refl _ _).alloc _
                have b7 := BlkStk.alloc wr (.int .i64 t.ow) (.int .i64 t.co) (.bool t.vt.neg) (.string t.vt.num) (.string t.vt.den) 36
                replace b1 := b1.keep0 c4
                replace b2 := b2.keep0 c4
                replace hp := hp.keep0 c4
                replace hch := hch.then c4
                clear c4
                have b1c0 := b1.c0
                have b1c1 := b1.c1
                have b1c2 := b1.c2
                have b7c0 := b7.c0
                have b7c1 := b7.c1
                have b7c2 := b7.c2
                have b7c3 := b7.c3
                have b7c4 := b7.c4
                have i1 : (0 : Int) ≤ (j : Int) := by omega
                have i2 : (j : Int) < (m : Int) := by omega
                go_wp2_with fail
                refine (HSJ.out _ hp).mono ?_
                rintro e w1 ⟨rfl, c1⟩
                replace b1 := b1.keep0 c1
                replace b2 := b2.keep0 c1
                replace hp := hp.keep0 c1
                replace hch := hch.then c1
                clear c1 b1c0 b1c1 b1c2 b7c0 b7c1 b7c2 b7c3 b7c4 b7 a0 a1 a2 a3 a4
                by_cases hv : v = 0
                · have HZ2 : Hid (fE (sE K S) (j + 1) = 0) := Lib.hid (by rw [HFE.out]; exact hv)
                  subst hv
                  go_wp2_with fail
                  go_roundw
                  case rel => exact ⟨j + 1, by omega, by go_num, HZ2.out, b1, b2, hp, hch⟩
                  case measure => simp [intOf]; omega
                · have d1 : (v == 0) = false := by simp [hv]
                  obtain rfl : r = v := HSTJ.out hv
                  have HV0 := Lib.hid hv
                  have b2c0 := b2.c0
                  have b2c1 := b2.c1
                  have b2c2 := b2.c2
                  have b2f0 := b2.f0
                  have b2f1 := b2.f1
                  have b2f2 := b2.f2
                  have b2l := b2.lt
                  have S2 := b2.store (.slice none 0 0) (.slice none 0 0) (.slice none 0 0)
                  have hchS := hch.store3 (.inr (show w.heap.size ≤ w.heap.size + 1 by omega)) (.slice none 0 0) (.slice none 0 0) (.slice none 0 0)
                  go_wp2_with fail
                  exact bodyPost_ret (v := badV r) (by simp [results, Try.results30, go_sem, S2.c0, S2.c1, S2.c2]) rfl ⟨fun h => absurd h HV0.out, fun _ => rfl, hchS⟩
              · obtain rfl : j = m := by omega
                have HGS : Hid (GoodS K S) := Lib.hid (good_of (by rw [HSN.out]; exact HZ.out))
                have hb2l : w.heap.size + 1 < wr.heap.size := b2.lt
                have b1c0 := b1.c0
                have b1c1 := b1.c1
                have b1c2 := b1.c2
                clear HST HSK
                go_wp2_with fail
                refine (HCV.out _ hp hm64 (by omega) HGS.out).mono ?_
                rintro e w1 ⟨gv, gu, rfl, hC, hgv, hgu, c1⟩
                replace b1 := b1.keep0 c1
                replace b2 := b2.keep0 c1
                replace hp := hp.keep0 c1
                replace hch := hch.then c1
                clear c1 b1c0 b1c1 b1c2
                have hgv0 : w.heap.size + 1 < gv := by omega
                have hgu0 : w.heap.size + 1 < gu := by omega
                clear hgv hgu hb2l
                have hbv : w.heap.size + 1 < w1.heap.size := b2.lt
                have c4 : Chg [] w1 (w1.alloc (.cells #[.slice AS j cS, .slice (some ⟨gv, 0, none⟩) j j, .slice (some ⟨gu, 0, none⟩) i i] 63)) := (Chg.refl _ _).alloc _
                have b9 := Blk3.alloc w1 (.slice AS j cS) (.slice (some ⟨gv, 0, none⟩) j j) (.slice (some ⟨gu, 0, none⟩) i i) 63
                replace b1 := b1.keep0 c4
                replace b2 := b2.keep0 c4
                replace hp := hp.keep0 c4
                replace hC := hC.keep0 c4
                replace hch := hch.then c4
                clear c4
                have b9c0 := b9.c0
                have b9c1 := b9.c1
                have b9c2 := b9.c2
                go_wp2_with fail
                refine (HEX.out gv gu _ hp hC hm64 (by omega) HGS.out).mono ?_
                rintro e w2 ⟨rfl, c1⟩
                replace b1 := b1.keep0 c1
                replace b2 := b2.keep0 c1
                replace b9 := b9.keep0 c1
                replace hp := hp.keep0 c1
                replace hC := hC.keep0 c1
                replace hch := hch.then c1
                clear c1 b9c0 b9c1 b9c2
                cases hov : ovr (pdOf K S) with
                | true =>
                  obtain rfl : r = 6 := HSU.out HL.out HKE.out HZ.out hov
                  clear hov
                  have b2c0 := b2.c0
                  have b2c1 := b2.c1
                  have b2c2 := b2.c2
                  have b2f0 := b2.f0
                  have b2f1 := b2.f1
                  have b2f2 := b2.f2
                  have b2l := b2.lt
                  have S2 := b2.store (.slice none 0 0) (.slice none 0 0) (.slice none 0 0)
                  have hchS := hch.store3 (.inr (show w.heap.size ≤ w.heap.size + 1 by omega)) (.slice none 0 0) (.slice none 0 0) (.slice none 0 0)
                  go_wp2_with fail
                  exact bodyPost_ret (v := badV 6) (by simp [results, Try.results30, go_sem, S2.c0, S2.c1, S2.c2]) rfl ⟨fun h => absurd h (by decide), fun _ => rfl, hchS⟩
                | false =>
                  have HR2 := Lib.hid (HTI.out HL.out HKE.out HZ.out hov)
                  clear hov HSU HTI
                  obtain ⟨g9, HG9⟩ := name_it w1.heap.size
                  rw [HG9.out] at b9 hbv ⊢
                  have b1c2 := b1.c2
                  go_wp2_with fail
                  clear b1c2
                  go_loopw [67] (fun iv wr => ∃ l : Nat, l ≤ tn ∧ iv = .int .i64 l ∧ tE i (T.take l) = false ∧ Cnt wr ⟨K, S, T, i, j, tn, AK, AS, AT, cK, cS, cT⟩ (pdOf K S) gv gu ∧ Blk3 wr g9 (.slice AS j cS) (.slice (some ⟨gv, 0, none⟩) j j) (.slice (some ⟨gu, 0, none⟩) i i) ∧ Blk3 wr w.heap.size (.slice AK i cK) (.slice AS j cS) (.slice AT tn cT) ∧ Blk3 wr (w.heap.size + 1) (.slice none 0 0) (.slice none 0 0) (.slice none 0 0) ∧ PV.At ⟨K, S, T, i, j, tn, AK, AS, AT, cK, cS, cT⟩ wr ∧ Chg [] w wr) (fun iv _ => tn - (intOf iv).toNat)
                  case atStart => exact ⟨0, Nat.zero_le _, rfl, rfl, hC, b9, b1, b2, hp, hch⟩
                  case round =>
                    clear b1 b2 hp hch hC b9
                    obtain ⟨l, hl, rfl, hz, hC, b9, b1, b2, hp, hch⟩ := hrel
                    have HZT := Lib.hid hz
                    clear hz
                    by_cases hlt : l < tn
                    · obtain ⟨g, o, rfl, hgl⟩ := hp.t.form (by rw [HTN.out]; exact Nat.lt_of_le_of_lt (Nat.zero_le _) hlt)
                      have hcx := hp.t.at_ (j := l) (by rw [HTN.out]; exact hlt)
                      have HTK : Hid (tE i (T.take (l + 1)) = (tE i (T.take l) || !twoB i (T.getD l ti0).a (T.getD l ti0).b)) := Lib.hid (any_take _ T ti0 (by rw [HTN.out]; exact hlt))
                      have HHT : Hid (twoB i (T.getD l ti0).a (T.getD l ti0).b = false → tE i T = true) := Lib.hid fun h => any_hit _ T ti0 (by rw [HTN.out]; exact hlt) (by rw [h]; rfl)
                      obtain ⟨t, HT⟩ := name_it (T.getD l ti0)
                      rw [HT.out] at hcx HTK HHT
                      have HAT := Lib.hid (HA2.out t.a t.b)
                      obtain ⟨y, HY⟩ := name_it (twoB i t.a t.b)
                      rw [HY.out] at HAT HTK HHT
                      obtain ⟨a0, a1, -⟩ := hcx
                      have c4 : Chg [] wr (wr.alloc (.cells #[.int .i64 t.a, .int .i64 t.b] 38)) := (Chg.refl _ _).alloc _
                      have b11 := BlkTi.alloc wr (.int .i64 t.a) (.int .i64 t.b) 38
                      replace b1 := b1.keep0 c4
                      replace b2 := b2.keep0 c4
                      replace b9 := b9.keep0 c4
                      replace hC := hC.keep0 c4
                      replace hp := hp.keep0 c4
                      replace hch := hch.then c4
                      clear c4
                      have b1c0 := b1.c0
                      have b1c1 := b1.c1
                      have b1c2 := b1.c2
                      have b11c0 := b11.c0
                      have b11c1 := b11.c1
                      have i1 : (0 : Int) ≤ (l : Int) := by omega
                      have i2 : (l : Int) < (tn : Int) := by omega
                      go_wp2_with fail
                      refine (HAT.out _).mono ?_
                      rintro e w3 ⟨rfl, c1⟩
                      replace b1 := b1.keep0 c1
                      replace b2 := b2.keep0 c1
                      replace b9 := b9.keep0 c1
                      replace hC := hC.keep0 c1
                      replace hp := hp.keep0 c1
                      replace hch := hch.then c1
                      clear c1 b1c0 b1c1 b1c2 b11c0 b11c1 b11 a0 a1
                      cases y with
                      | true =>
                        have HZ2 : Hid (tE i (T.take (l + 1)) = false) := Lib.hid (by rw [HTK.out, HZT.out]; rfl)
                        go_wp2_with fail
                        go_roundw
                        case rel => exact ⟨l + 1, by omega, by go_num, HZ2.out, hC, b9, b1, b2, hp, hch⟩
                        case measure => simp [intOf]; omega
                      | false =>
                        obtain rfl : r = 14 := by have := HR2.out; rw [HHT.out rfl] at this; exact this
                        have b2c0 := b2.c0
                        have b2c1 := b2.c1
                        have b2c2 := b2.c2
                        have b2f0 := b2.f0
                        have b2f1 := b2.f1
                        have b2f2 := b2.f2
                        have b2l := b2.lt
                        have S2 := b2.store (.slice none 0 0) (.slice none 0 0) (.slice none 0 0)
                        have hchS := hch.store3 (.inr (show w.heap.size ≤ w.heap.size + 1 by omega)) (.slice none 0 0) (.slice none 0 0) (.slice none 0 0)
                        go_wp2_with fail
                        exact bodyPost_ret (v := badV 14) (by simp [results, Try.results30, go_sem, S2.c0, S2.c1, S2.c2]) rfl ⟨fun h => absurd h (by decide), fun _ => rfl, hchS⟩
                    · obtain rfl : l = tn := by omega
                      obtain rfl : r = 0 := by
                        have := HR2.out
                        have h2 := HZT.out
                        rw [List.take_of_length_le (by rw [HTN.out]; exact Nat.le_refl _)] at h2
                        rw [h2] at this; exact this
                      have hn1 : w.heap.size + 1 ≠ g9 := by omega
                      have hcs : Chg [w.heap.size + 1] wr ((((wr.setCell ⟨w.heap.size + 1, 0, none⟩ (.slice AS j cS)).setCell ⟨w.heap.size + 1, 1, none⟩ (.slice (some ⟨gv, 0, none⟩) j j)).setCell ⟨w.heap.size + 1, 2, none⟩ (.slice (some ⟨gu, 0, none⟩) i i))) := (Chg.refl [w.heap.size + 1] wr).store3 (.inl (by simp)) _ _ _
                      have b2c0 := b2.c0
                      have b2c1 := b2.c1
                      have b2c2 := b2.c2
                      have b2f0 := b2.f0
                      have b2f1 := b2.f1
                      have b2f2 := b2.f2
                      have b2l := b2.lt
                      have b9c0 := b9.c0
                      have b9c1 := b9.c1
                      have b9c2 := b9.c2
                      have S2 := b2.store (.slice AS j cS) (.slice (some ⟨gv, 0, none⟩) j j) (.slice (some ⟨gu, 0, none⟩) i i)
                      have hchS := hch.store3 (.inr (show w.heap.size ≤ w.heap.size + 1 by omega)) (.slice AS j cS) (.slice (some ⟨gv, 0, none⟩) j j) (.slice (some ⟨gu, 0, none⟩) i i)
                      go_wp2_with fail
                      exact bodyPost_ret (v := .tuple #[.agg #[.slice AS j cS, .slice (some ⟨gv, 0, none⟩) j j, .slice (some ⟨gu, 0, none⟩) i i], .int .i64 0]) (by simp [results, Try.results30, go_sem, S2.c0, S2.c1, S2.c2]) rfl ⟨fun _ => ⟨gv, gu, rfl, ⟨hC.v.keep hcs (by simp; omega), hC.u.keep hcs (by simp; omega)⟩, by omega, by omega⟩, fun h => absurd rfl h, hchS⟩
end Go.Proofs.Ytgdpcpbmjgaliaa
