/-
  Party: Check, countFor.
-/
import Derived.Test.YtgdpcpbmjgaliaaPX4
namespace Go.Proofs.Ytgdpcpbmjgaliaa
open Go.RowKit Nd

set_option maxRecDepth 20000 in
set_option maxHeartbeats 1000000 in
theorem check_any (p : PV) (k : Nat) (w : World) (hp : p.At w) (hF : FitS p.S k) :
    Calls Try.prog 14 #[p.val] w fun e w' => e = .returned (.int .i64 (ckP p.K p.S p.T)) ∧ Chg [] w w' := by
  have b1 := box_p p w
  have hch := chg_p p w
  replace hp := hp.keep0 hch
  have b1c0 := b1.c0
  have b1c1 := b1.c1
  have b1c2 := b1.c2
  have HC := Lib.hid (fun w h => count_any p k w h hF)
  obtain ⟨r, HR⟩ := name_it (ckP p.K p.S p.T)
  rw [HR.out] at HC ⊢
  go_enter Try.func14, Try.ntmps14
  go_wp2_with fail
  refine (HC.out _ hp).mono ?_
  intro e w1 hpost
  by_cases h0 : r = 0
  · obtain ⟨gv, gu, rfl, -, -, -⟩ := hpost.good h0
    replace hch := hch.then hpost.ch
    subst h0
    clear hpost b1c0 b1c1 b1c2
    go_wp2_with fail
    go_ret
    exact ⟨rfl, hch.alloc _⟩
  · obtain rfl := hpost.bad h0
    replace hch := hch.then hpost.ch
    clear hpost b1c0 b1c1 b1c2 h0
    go_wp2_with fail
    go_ret
    exact ⟨rfl, hch.alloc _⟩

/-- The error for the given parties. -/
def cfE (p : PV) (L : List Zn) : Int := if ckP p.K p.S p.T ≠ 0 then ckP p.K p.S p.T else if L.any (fun z => !inB p.n z.x) then 14 else 0

set_option maxRecDepth 20000 in
set_option maxHeartbeats 4000000 in
theorem countFor_any (p : PV) (k : Nat) (L : List Zn) (l : Nat) (A : Option Addr) (cap : Nat) (w : World) (hp : p.At w) (hF : FitS p.S k) (hl : L.length = l) (hlm : l ≤ 1000000) (hx : SZn w A L) :
    Calls Try.prog 36 #[p.val, .slice A l cap] w fun e w' => CntPost w w' e p (cfE p L) := by
  have c1 : Chg [] (w.alloc (.cells #[.slice p.AK p.n p.cK, .slice p.AS p.m p.cS, .slice p.AT p.t p.cT] 26)) ((w.alloc (.cells #[.slice p.AK p.n p.cK, .slice p.AS p.m p.cS, .slice p.AT p.t p.cT] 26)).alloc (.cells #[.slice none 0 0, .slice none 0 0, .slice none 0 0] 63)) := (Chg.refl _ _).alloc _
  have b1 := (box_p p w).keep0 c1
  have b2 := Blk3.alloc (w.alloc (.cells #[.slice p.AK p.n p.cK, .slice p.AS p.m p.cS, .slice p.AT p.t p.cT] 26)) (.slice none 0 0) (.slice none 0 0) (.slice none 0 0) 63
  rw [World.size_alloc] at b2
  have hch := (chg_p p w).then c1
  clear c1
  replace hp := hp.keep0 hch
  replace hx := hx.keep0 hch
  have b1c0 := b1.c0
  have b1c1 := b1.c1
  have b1c2 := b1.c2
  have HC := Lib.hid (fun w h => count_any p k w h hF)
  have HP := Lib.hid (fun x w => isParty_any p x w)
  have HBAD : Hid (ckP p.K p.S p.T ≠ 0 → cfE p L = ckP p.K p.S p.T) := Lib.hid fun h => by unfold cfE; rw [if_pos h]
  have HGOOD : Hid (ckP p.K p.S p.T = 0 → cfE p L = if L.any (fun z => !inB p.n z.x) then 14 else 0) := Lib.hid fun h => by unfold cfE; rw [if_neg (by simp [h])]
  have HL := Lib.hid hl
  obtain ⟨r, HR⟩ := name_it (cfE p L)
  rw [HR.out] at HBAD HGOOD ⊢
  obtain ⟨s, HS⟩ := name_it (ckP p.K p.S p.T)
  rw [HS.out] at HC HBAD HGOOD
  clear hl
  go_enter Try.func36, Try.ntmps36
  go_wp2_with fail
  refine (HC.out _ hp).mono ?_
  intro e w1 hpost
  have hb2l := b2.lt
  replace b1 := b1.keep0 hpost.ch
  replace b2 := b2.keep0 hpost.ch
  replace hp := hp.keep0 hpost.ch
  replace hx := hx.keep0 hpost.ch
  replace hch := hch.then hpost.ch
  clear b1c0 b1c1 b1c2
  by_cases h0 : s = 0
  · obtain ⟨gv, gu, rfl, hC, hgv, hgu⟩ := hpost.good h0
    have HG := Lib.hid (HGOOD.out h0)
    have hgv1 : w.heap.size + 1 < gv := Nat.lt_of_lt_of_le hb2l hgv
    have hgu1 : w.heap.size + 1 < gu := Nat.lt_of_lt_of_le hb2l hgu
    subst h0
    clear hpost hgv hgu hb2l
    have c4 : Chg [] w1 (w1.alloc (.cells #[.slice p.AS p.m p.cS, .slice (some ⟨gv, 0, none⟩) p.m p.m, .slice (some ⟨gu, 0, none⟩) p.n p.n] 63)) := (Chg.refl _ _).alloc _
    have b6 := Blk3.alloc w1 (.slice p.AS p.m p.cS) (.slice (some ⟨gv, 0, none⟩) p.m p.m) (.slice (some ⟨gu, 0, none⟩) p.n p.n) 63
    have hb6 : w.heap.size + 1 < w1.heap.size := b2.lt
    replace b1 := b1.keep0 c4
    replace b2 := b2.keep0 c4
    replace hp := hp.keep0 c4
    replace hx := hx.keep0 c4
    replace hC := hC.keep0 c4
    replace hch := hch.then c4
    clear c4
    go_wp2_with fail
    obtain ⟨g6, HG6⟩ := name_it w1.heap.size
    rw [HG6.out] at b6 hb6 ⊢
    go_loopw [21] (fun iv wr => ∃ i : Nat, i ≤ l ∧ iv = .int .i64 i ∧ (L.take i).any (fun z => !inB p.n z.x) = false ∧ Cnt wr p (pdOf p.K p.S) gv gu ∧ Blk3 wr g6 (.slice p.AS p.m p.cS) (.slice (some ⟨gv, 0, none⟩) p.m p.m) (.slice (some ⟨gu, 0, none⟩) p.n p.n) ∧ Blk3 wr w.heap.size (.slice p.AK p.n p.cK) (.slice p.AS p.m p.cS) (.slice p.AT p.t p.cT) ∧ Blk3 wr (w.heap.size + 1) (.slice none 0 0) (.slice none 0 0) (.slice none 0 0) ∧ SZn wr A L ∧ Chg [] w wr) (fun iv _ => l - (intOf iv).toNat)
    case atStart => exact ⟨0, Nat.zero_le _, rfl, rfl, hC, b6, b1, b2, hx, hch⟩
    case round =>
      clear b1 b2 hp hch hC b6 hx
      obtain ⟨i, hi, rfl, hz, hC, b6, b1, b2, hx, hch⟩ := hrel
      have HZ := Lib.hid hz
      clear hz
      by_cases hlt : i < l
      · obtain ⟨g, o, rfl, hgl⟩ := hx.form (by rw [HL.out]; exact Nat.lt_of_le_of_lt (Nat.zero_le _) hlt)
        have hcx := (hx.at_ (j := i) (by rw [HL.out]; exact hlt)).c0
        rw [Nat.mul_one] at hcx
        have HTK : Hid ((L.take (i + 1)).any (fun z => !inB p.n z.x) = ((L.take i).any (fun z => !inB p.n z.x) || !inB p.n (L.getD i zn0).x)) := Lib.hid (any_take _ L zn0 (by rw [HL.out]; exact hlt))
        have HHT : Hid (inB p.n (L.getD i zn0).x = false → L.any (fun z => !inB p.n z.x) = true) := Lib.hid fun h => any_hit _ L zn0 (by rw [HL.out]; exact hlt) (by rw [h]; rfl)
        obtain ⟨x, HX⟩ := name_it ((L.getD i zn0).x)
        rw [HX.out] at hcx HTK HHT
        have HPX := Lib.hid (HP.out x)
        obtain ⟨y, HY⟩ := name_it (inB p.n x)
        rw [HY.out] at HPX HTK HHT
        have b1c0 := b1.c0
        have b1c1 := b1.c1
        have b1c2 := b1.c2
        have i1 : (0 : Int) ≤ (i : Int) := by omega
        have i2 : (i : Int) < (l : Int) := by omega
        go_wp2_with fail
        refine (HPX.out _).mono ?_
        rintro e w3 ⟨rfl, c1⟩
        replace b1 := b1.keep0 c1
        replace b2 := b2.keep0 c1
        replace b6 := b6.keep0 c1
        replace hC := hC.keep0 c1
        replace hx := hx.keep0 c1
        replace hch := hch.then c1
        clear c1 b1c0 b1c1 b1c2 hcx
        cases y with
        | true =>
          have HZ2 : Hid ((L.take (i + 1)).any (fun z => !inB p.n z.x) = false) := Lib.hid (by rw [HTK.out, HZ.out]; rfl)
          go_wp2_with fail
          go_roundw
          case rel => exact ⟨i + 1, by omega, by go_num, HZ2.out, hC, b6, b1, b2, hx, hch⟩
          case measure => simp [intOf]; omega
        | false =>
          obtain rfl : r = 14 := by have := HG.out; rw [HHT.out rfl] at this; exact this
          have b2c0 := b2.c0
          have b2c1 := b2.c1
          have b2c2 := b2.c2
          have b2f0 := b2.f0
          have b2f1 := b2.f1
          have b2f2 := b2.f2
          have b2l := b2.lt
          have S2 := b2.store (.slice none 0 0) (.slice none 0 0) (.slice none 0 0)
          have hchS := hch.store3 (.inr (show w.heap.size ≤ w.heap.size + 1 by omega)) (.slice none 0 0) (.slice none 0 0) (.slice none 0 0)
          go_wp2_with fail
          exact bodyPost_ret (v := badV 14) (by simp [results, Try.results36, go_sem, S2.c0, S2.c1, S2.c2]) rfl ⟨fun h => absurd h (by decide), fun _ => rfl, hchS⟩
      · obtain rfl : i = l := by omega
        obtain rfl : r = 0 := by
          have := HG.out
          have h2 := HZ.out
          rw [List.take_of_length_le (by rw [HL.out]; exact Nat.le_refl _)] at h2
          rw [h2] at this; exact this
        have hn1 : w.heap.size + 1 ≠ g6 := by omega
        have hcs : Chg [w.heap.size + 1] wr ((((wr.setCell ⟨w.heap.size + 1, 0, none⟩ (.slice p.AS p.m p.cS)).setCell ⟨w.heap.size + 1, 1, none⟩ (.slice (some ⟨gv, 0, none⟩) p.m p.m)).setCell ⟨w.heap.size + 1, 2, none⟩ (.slice (some ⟨gu, 0, none⟩) p.n p.n))) := (Chg.refl [w.heap.size + 1] wr).store3 (.inl (by simp)) _ _ _
        have b2c0 := b2.c0
        have b2c1 := b2.c1
        have b2c2 := b2.c2
        have b2f0 := b2.f0
        have b2f1 := b2.f1
        have b2f2 := b2.f2
        have b2l := b2.lt
        have b6c0 := b6.c0
        have b6c1 := b6.c1
        have b6c2 := b6.c2
        have S2 := b2.store (.slice p.AS p.m p.cS) (.slice (some ⟨gv, 0, none⟩) p.m p.m) (.slice (some ⟨gu, 0, none⟩) p.n p.n)
        have hchS := hch.store3 (.inr (show w.heap.size ≤ w.heap.size + 1 by omega)) (.slice p.AS p.m p.cS) (.slice (some ⟨gv, 0, none⟩) p.m p.m) (.slice (some ⟨gu, 0, none⟩) p.n p.n)
        go_wp2_with fail
        exact bodyPost_ret (v := .tuple #[.agg #[.slice p.AS p.m p.cS, .slice (some ⟨gv, 0, none⟩) p.m p.m, .slice (some ⟨gu, 0, none⟩) p.n p.n], .int .i64 0]) (by simp [results, Try.results36, go_sem, S2.c0, S2.c1, S2.c2]) rfl ⟨fun _ => ⟨gv, gu, rfl, ⟨hC.v.keep hcs (by simp; omega), hC.u.keep hcs (by simp; omega)⟩, by omega, by omega⟩, fun h => absurd rfl h, hchS⟩
  · obtain rfl := hpost.bad h0
    obtain rfl : r = s := HBAD.out h0
    have HS0 := Lib.hid h0
    clear hpost hb2l
    have d1 : (r == 0) = false := by simp [h0]
    have c4 : Chg [] w1 (w1.alloc (.cells #[.slice none 0 0, .slice none 0 0, .slice none 0 0] 63)) := (Chg.refl _ _).alloc _
    replace b2 := b2.keep0 c4
    replace hch := hch.then c4
    clear c4
    have b2c0 := b2.c0
    have b2c1 := b2.c1
    have b2c2 := b2.c2
    have b2f0 := b2.f0
    have b2f1 := b2.f1
    have b2f2 := b2.f2
    have b2l := b2.lt
    have S2 := b2.store (.slice none 0 0) (.slice none 0 0) (.slice none 0 0)
    have hchS := hch.store3 (.inr (show w.heap.size ≤ w.heap.size + 1 by omega)) (.slice none 0 0) (.slice none 0 0) (.slice none 0 0)
    go_wp2_with fail
    exact bodyPost_ret (v := badV r) (by simp [results, Try.results36, go_sem, S2.c0, S2.c1, S2.c2]) rfl ⟨fun h => absurd h HS0.out, fun _ => rfl, hchS⟩
end Go.Proofs.Ytgdpcpbmjgaliaa
