/-
  Party: few, awake; what the laws lean on.
-/
import Derived.Test.YtgdpcpbmjgaliaaPX8
import Derived.Test.YtgdpcpbmjgaliaaAKB
namespace Go.Proofs.Ytgdpcpbmjgaliaa
open Go.RowKit Nd

/-- Whether raw parties are short enough for a law. -/
def fewP (p : PV) : Bool := decide (p.n ≤ 8) && decide (p.m ≤ 12) && decide (p.t ≤ 12) && p.S.all fun s => shortQ s.vt
theorem fewP_fits {p : PV} (h : fewP p = true) : FitS p.S 24 := by
  unfold fewP at h
  simp only [Bool.and_eq_true] at h
  refine ⟨by omega, by omega, fun s hs => ?_⟩
  have := List.all_eq_true.1 h.2 s hs
  unfold shortQ at this
  simp only [Bool.and_eq_true, decide_eq_true_eq] at this
  exact ⟨this.1, this.2⟩
theorem all_take {α : Type} (f : α → Bool) (l : List α) (d : α) {i : Nat} (h : i < l.length) : (l.take (i + 1)).all f = ((l.take i).all f && f (l.getD i d)) := by
  rw [List.take_add_one, List.getElem?_eq_getElem h, List.all_append]
  simp [List.getD_eq_getElem?_getD, List.getElem?_eq_getElem h]
theorem all_miss {α : Type} (f : α → Bool) (l : List α) (d : α) {i : Nat} (h : i < l.length) (hf : f (l.getD i d) = false) : l.all f = false := by
  rw [List.all_eq_false]
  refine ⟨l.getD i d, ?_, fun h => by rw [hf] at h; cases h⟩
  rw [List.getD_eq_getElem?_getD, List.getElem?_eq_getElem h]; exact List.getElem_mem _

set_option maxRecDepth 20000 in
set_option maxHeartbeats 2000000 in
theorem few8_any (p : PV) (w : World) (hp : p.At w) :
    Calls Try.prog 12 #[p.val] w fun e w' => e = .returned (.bool (fewP p)) ∧ Chg [] w w' := by
  have b1 := box_p p w
  have hch := chg_p p w
  have hps := hp.s.keep0 hch
  have HSN : Hid (p.S.length = p.m) := Lib.hid hp.sn
  have hsb := hp.sb
  have b1c0 := b1.c0
  have b1c1 := b1.c1
  have b1c2 := b1.c2
  have HF : Hid (fewP p = (decide (p.n ≤ 8) && decide (p.m ≤ 12) && decide (p.t ≤ 12) && p.S.all fun s => shortQ s.vt)) := Lib.hid rfl
  obtain ⟨r, HR⟩ := name_it (fewP p)
  rw [HR.out] at HF ⊢
  clear hp
  obtain ⟨K, S, T, n, m, tn, AK, AS, AT, cK, cS, cT⟩ := p
  dsimp only at *
  by_cases hl1 : n ≤ 8
  · have d1 : decide ((8 : Int) < (n : Int)) = false := decide_eq_false (by omega)
    by_cases hl2 : m ≤ 12
    · have d2 : decide ((12 : Int) < (m : Int)) = false := decide_eq_false (by omega)
      by_cases hl3 : tn ≤ 12
      · have d3 : decide ((12 : Int) < (tn : Int)) = false := decide_eq_false (by omega)
        have HF2 : Hid (r = S.all fun s => shortQ s.vt) := Lib.hid (by rw [HF.out]; simp [hl1, hl2, hl3])
        clear hl1 hl3 HF
        go_enter Try.func12, Try.ntmps12
        go_wp2_with fail
        clear b1c0 b1c1 b1c2 d1 d2 d3
        go_loopw [24] (fun iv wr => ∃ i : Nat, i ≤ m ∧ iv = .int .i64 i ∧ (S.take i).all (fun s => shortQ s.vt) = true ∧ SStk wr AS S ∧ Chg [] w wr) (fun iv _ => m - (intOf iv).toNat)
        case atStart => exact ⟨0, Nat.zero_le _, rfl, rfl, hps, hch⟩
        case round =>
          clear hps hch
          obtain ⟨i, hi, rfl, hz, hps, hch⟩ := hrel
          have HZ := Lib.hid hz
          clear hz
          by_cases hlt : i < m
          · obtain ⟨g, o, rfl, hgl⟩ := hps.form (by rw [HSN.out]; exact Nat.lt_of_le_of_lt (Nat.zero_le _) hlt)
            have hcx := hps.at_ (j := i) (by rw [HSN.out]; exact hlt)
            have HTK : Hid ((S.take (i + 1)).all (fun s => shortQ s.vt) = ((S.take i).all (fun s => shortQ s.vt) && shortQ (S.getD i stk0).vt)) := Lib.hid (all_take _ S stk0 (by rw [HSN.out]; exact hlt))
            have HMS : Hid (shortQ (S.getD i stk0).vt = false → r = false) := Lib.hid fun h => by rw [HF2.out]; exact all_miss _ S stk0 (by rw [HSN.out]; exact hlt) h
            obtain ⟨t, HT⟩ := name_it (S.getD i stk0)
            rw [HT.out] at hcx HTK HMS
            have HFW := Lib.hid (fun w => Few_any t.vt w)
            obtain ⟨y, HY⟩ := name_it (shortQ t.vt)
            rw [HY.out] at HTK HMS HFW
            obtain ⟨a0, a1, a2, a3, a4, -⟩ := hcx
            have c4 : Chg [] wr (wr.alloc (.cells #[.int .i64 t.ow, .int .i64 t.co, .bool t.vt.neg, .string t.vt.num, .string t.vt.den] 36)) := (Chg.refl _ _).alloc _
            have b4 := BlkStk.alloc wr (.int .i64 t.ow) (.int .i64 t.co) (.bool t.vt.neg) (.string t.vt.num) (.string t.vt.den) 36
            replace hps := hps.keep0 c4
            replace hch := hch.then c4
            clear c4
            have b4c2 := b4.c2
            have b4c3 := b4.c3
            have b4c4 := b4.c4
            have i1 : (0 : Int) ≤ (i : Int) := by omega
            have i2 : (i : Int) < (m : Int) := by omega
            go_wp2_with fail
            refine (HFW.out _).mono ?_
            rintro e w1 ⟨rfl, c1⟩
            replace hps := hps.keep0 c1
            replace hch := hch.then c1
            clear c1 b4 b4c2 b4c3 b4c4 a0 a1 a2 a3 a4
            cases y with
            | true =>
              have HZ2 : Hid ((S.take (i + 1)).all (fun s => shortQ s.vt) = true) := Lib.hid (by rw [HTK.out, HZ.out]; rfl)
              go_wp2_with fail
              go_roundw
              case rel => exact ⟨i + 1, by omega, by go_num, HZ2.out, hps, hch⟩
              case measure => simp [intOf]; omega
            | false =>
              obtain rfl : r = false := HMS.out rfl
              go_wp2_with fail
              go_ret
              exact ⟨rfl, hch⟩
          · obtain rfl : i = m := by omega
            obtain rfl : r = true := by
              have := HZ.out
              rw [List.take_of_length_le (by rw [HSN.out]; exact Nat.le_refl _)] at this
              rw [HF2.out]; exact this
            go_wp2_with fail
            go_ret
            exact ⟨rfl, hch⟩
      · have d3 : decide ((12 : Int) < (tn : Int)) = true := decide_eq_true (by omega)
        obtain rfl : r = false := by rw [HF.out]; simp [hl3]
        clear hl1 hl2 hl3 HF
        go_enter Try.func12, Try.ntmps12
        go_wp2_with fail
        go_ret
        exact ⟨rfl, hch⟩
    · have d2 : decide ((12 : Int) < (m : Int)) = true := decide_eq_true (by omega)
      obtain rfl : r = false := by rw [HF.out]; simp [hl2]
      clear hl1 hl2 HF
      go_enter Try.func12, Try.ntmps12
      go_wp2_with fail
      go_ret
      exact ⟨rfl, hch⟩
  · have d1 : decide ((8 : Int) < (n : Int)) = true := decide_eq_true (by omega)
    obtain rfl : r = false := by rw [HF.out]; simp [hl1]
    clear hl1 HF
    go_enter Try.func12, Try.ntmps12
    go_wp2_with fail
    go_ret
    exact ⟨rfl, hch⟩

/-! ### the chapter's example -/
def awK : List Zn := [⟨1⟩, ⟨2⟩, ⟨2⟩]
def awS (x y z : Q3) : List Stk := [⟨0, 1, x⟩, ⟨0, 2, y⟩, ⟨1, 2, z⟩]
def awX (k : Nat) : Bool := k == 1 || k == 2
theorem aw_hQ (x y z : Q3) (X : Nat → Bool) (k : Nat) : hQ (pdOf awK (awS x y z)) X k 3 = 0 + (if 1 = k ∧ X 0 = true then ratOf x else 0) + (if 2 = k ∧ X 0 = true then ratOf y else 0) + (if 2 = k ∧ X 1 = true then ratOf z else 0) := rfl
theorem aw_fit {x y z : Q3} (hx : Val x (6 / 10) 8) (hy : Val y (3 / 10) 8) (hz : Val z (3 / 10) 8) : FitS (awS x y z) 8 :=
  ⟨by omega, by omega, fun s hs => by
    simp only [awS, List.mem_cons, List.not_mem_nil, or_false] at hs
    rcases hs with rfl | rfl | rfl
    · exact hx.num.fit
    · exact hy.num.fit
    · exact hz.num.fit⟩
theorem aw_ck {x y z : Q3} (hx : ratOf x = 6 / 10) (hy : ratOf y = 3 / 10) (hz : ratOf z = 3 / 10) : ckP awK (awS x y z) [] = 0 := by
  have h1 : sE awK (awS x y z) 0 = 0 := by
    show (if twoB 3 0 1 = false ∨ kdA awK 1 ≠ 2 then (14 : Int) else if sg (ratOf x) ≤ 0 then 1 else 0) = 0
    rw [if_neg (by decide), if_neg (by rw [hx]; decide +kernel)]
  have h2 : sE awK (awS x y z) 1 = 0 := by
    show (if twoB 3 0 2 = false ∨ kdA awK 2 ≠ 2 then (14 : Int) else if sg (ratOf y) ≤ 0 then 1 else 0) = 0
    rw [if_neg (by decide), if_neg (by rw [hy]; decide +kernel)]
  have h3 : sE awK (awS x y z) 2 = 0 := by
    show (if twoB 3 1 2 = false ∨ kdA awK 2 ≠ 2 then (14 : Int) else if sg (ratOf z) ≤ 0 then 1 else 0) = 0
    rw [if_neg (by decide), if_neg (by rw [hz]; decide +kernel)]
  have hf : fE (sE awK (awS x y z)) (awS x y z).length = 0 := fE_none fun i hi => by
    have hl : (awS x y z).length = 3 := rfl
    rw [hl] at hi
    rcases (by omega : i = 0 ∨ i = 1 ∨ i = 2) with rfl | rfl | rfl <;> assumption
  have ho : ovr (pdOf awK (awS x y z)) = false := by
    cases ho : ovr (pdOf awK (awS x y z))
    · rfl
    · obtain ⟨k, hk, hk2⟩ := ovr_iff.1 ho
      have hk3 : k < 3 := hk
      have hm : (pdOf awK (awS x y z)).m = 3 := rfl
      rw [hm, aw_hQ, hx, hy, hz] at hk2
      rcases (by omega : k = 0 ∨ k = 1 ∨ k = 2) with rfl | rfl | rfl
      · exact absurd hk2 (by decide +kernel)
      · exact absurd hk2 (by decide +kernel)
      · exact absurd hk2 (by decide +kernel)
  rw [ck_tie (K := awK) (S := awS x y z) (T := []) (show ¬ (32 < 3 ∨ 64 < 3 ∨ 64 < 0) by decide) (by decide) hf ho]; rfl
theorem aw_least {x y z : Q3} (hx : ratOf x = 6 / 10) (hy : ratOf y = 3 / 10) (hz : ratOf z = 3 / 10) : Least (pdOf awK (awS x y z)) 0 awX := by
  refine ⟨fun k hk => ?_, fun k hk hf => ?_, fun Y hY k hk => ?_⟩
  · have : k = 1 ∨ k = 2 := by simpa [awX] using hk
    show k < 3
    omega
  · have hk3 : k < 3 := hk
    have := (FF_iff.1 hf).1
    rcases (by omega : k = 1 ∨ k = 2) with rfl | rfl <;> rfl
  · have h1 : Y 1 = true := hY 1 (show 1 < 3 by decide) (FF_iff.2 ⟨by decide, (show decide ((awK.getD 1 zn0).x = 2) = true by decide), by
      show (1 : Rat) / 2 < hQ (pdOf awK (awS x y z)) _ 1 3
      rw [aw_hQ, hx, hy, hz, if_pos ⟨rfl, by simp⟩, if_neg (fun h => absurd h.1 (by decide)), if_neg (fun h => absurd h.1 (by decide))]
      decide +kernel⟩)
    have h2 : Y 2 = true := hY 2 (show 2 < 3 by decide) (FF_iff.2 ⟨by decide, (show decide ((awK.getD 2 zn0).x = 2) = true by decide), by
      show (1 : Rat) / 2 < hQ (pdOf awK (awS x y z)) _ 2 3
      rw [aw_hQ, hx, hy, hz, if_neg (fun h => absurd h.1 (by decide)), if_pos ⟨rfl, by simp⟩, if_pos ⟨rfl, by simp [h1]⟩]
      decide +kernel⟩)
    rcases (by simpa [awX] using hk : k = 1 ∨ k = 2) with rfl | rfl
    · exact h1
    · exact h2
end Go.Proofs.Ytgdpcpbmjgaliaa
