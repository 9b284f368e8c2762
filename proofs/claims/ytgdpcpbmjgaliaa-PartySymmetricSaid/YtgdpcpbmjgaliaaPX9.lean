/-
  Party: Connected, Circle.
-/
import Derived.Test.YtgdpcpbmjgaliaaPX8
import Derived.Test.YtgdpcpbmjgaliaaPR1
namespace Go.Proofs.Ytgdpcpbmjgaliaa
open Go.RowKit Nd

/-- Whether a tie joins a and b. -/
def tiB (a b : Int) (t : Ti) : Bool := (decide (t.a = a) && decide (t.b = b)) || (decide (t.a = b) && decide (t.b = a))
/-- Whether one of the first j ties joins a and b. -/
def tieJ (T : List Ti) (a b : Nat) (j : Nat) : Bool := (T.take j).any (tiB a b)
theorem tieJ_step {T : List Ti} {a b j : Nat} (h : j < T.length) : tieJ T a b (j + 1) = (tieJ T a b j || tiB a b (T.getD j ti0)) := any_take2 _ T ti0 h
theorem tieJ_hit {T : List Ti} {a b j : Nat} (h : j < T.length) (h2 : tiB a b (T.getD j ti0) = true) : tieJ T a b T.length = true := by
  unfold tieJ; rw [List.take_length]; exact any_hit2 _ T ti0 h h2
/-- Whether c joins a and b. -/
def prB (LF : Nat → Nat → Bool) (a b c : Nat) : Bool := (c == a || LF c a) && (c == b || LF c b)
def prJ (LF : Nat → Nat → Bool) (a b i : Nat) : Bool := (List.range i).any (prB LF a b)
theorem prJ_step {LF : Nat → Nat → Bool} {a b i : Nat} : prJ LF a b (i + 1) = (prJ LF a b i || prB LF a b i) := by
  unfold prJ; rw [List.range_succ, List.any_append]; simp
theorem prJ_hit {LF : Nat → Nat → Bool} {a b i n : Nat} (h : i < n) (h2 : prB LF a b i = true) : prJ LF a b n = true := by
  unfold prJ; rw [List.any_eq_true]; exact ⟨i, List.mem_range.2 h, h2⟩
/-- Whether b is near a. -/
def nrB (T : List Ti) (LF : Nat → Nat → Bool) (n a b : Nat) : Bool := tieJ T a b T.length || prJ LF a b n

set_option maxRecDepth 20000 in
set_option linter.unusedSimpArgs false in
set_option maxHeartbeats 4000000 in
theorem circle_any (p : PV) (k gv gu a : Nat) (LF : Nat → Nat → Bool) (w : World) (hp : p.At w) (hc : Cnt w p (pdOf p.K p.S) gv gu) (hm : p.m ≤ 64) (hn : p.n ≤ 32) (hG : GoodS p.K p.S) (hF : FitS p.S k) (hT : ∀ i, i < p.t → twoB p.n (p.T.getD i ti0).a (p.T.getD i ti0).b = true) (hL : ∀ c, c < p.n → Least (pdOf p.K p.S) c (LF c)) (ha : a < p.n) :
    Calls Try.prog 42 #[p.val, cntV p gv gu, .int .i64 (a : Int)] w fun e w' => ∃ g, e = .returned (.slice (some ⟨g, 0, none⟩) p.n p.n) ∧ Fb w' g p.n (fun b => .bool (nrB p.T LF p.n a b)) ∧ w.heap.size ≤ g ∧ Chg [] w w' := by
  have hlow := hp.low
  have HCO := Lib.hid (fun c w (h1 : p.At w) (h2 : Cnt w p (pdOf p.K p.S) gv gu) (h : c < p.n) => controlled_any p k gv gu c (LF c) w h1 h2 hm hn hG hF (hL c h))
  have HTT := Lib.hid hT
  have HTN : Hid (p.T.length = p.t) := Lib.hid hp.tn
  have htb := hp.tb
  obtain ⟨P, HP⟩ := name_it (pdOf p.K p.S)
  rw [HP.out] at HCO hc
  have c1 : Chg [] (w.alloc (.cells #[.slice p.AK p.n p.cK, .slice p.AS p.m p.cS, .slice p.AT p.t p.cT] 26)) ((w.alloc (.cells #[.slice p.AK p.n p.cK, .slice p.AS p.m p.cS, .slice p.AT p.t p.cT] 26)).alloc (.cells #[.slice p.AS p.m p.cS, .slice (some ⟨gv, 0, none⟩) p.m p.m, .slice (some ⟨gu, 0, none⟩) p.n p.n] 63)) := (Chg.refl _ _).alloc _
  have b1 := (box_p p w).keep0 c1
  have b2 := box_c p gv gu (w.alloc (.cells #[.slice p.AK p.n p.cK, .slice p.AS p.m p.cS, .slice p.AT p.t p.cT] 26))
  rw [World.size_alloc] at b2
  have hch := (chg_p p w).then c1
  have hlv := hc.v.lt
  have hlu := hc.u.lt
  have hsz0 : ((w.alloc (.cells #[.slice p.AK p.n p.cK, .slice p.AS p.m p.cS, .slice p.AT p.t p.cT] 26)).alloc (.cells #[.slice p.AS p.m p.cS, .slice (some ⟨gv, 0, none⟩) p.m p.m, .slice (some ⟨gu, 0, none⟩) p.n p.n] 63)).heap.size = w.heap.size + 1 + 1 := by simp
  replace hp := hp.keep0 hch
  replace hc := hc.keep0 hch
  have HLOW := Lib.hid hlow
  clear c1 hG hF hL HP hm hT hlow
  obtain ⟨K, S, T, n, m, tn, AK, AS, AT, cK, cS, cT⟩ := p
  dsimp only at *
  obtain ⟨iB, hiB, hy0, hy1, hyb⟩ := infoB
  obtain ⟨w0, HW0⟩ := name_it ((w.alloc (.cells #[.slice AK n cK, .slice AS m cS, .slice AT tn cT] 26)).alloc (.cells #[.slice AS m cS, .slice (some ⟨gv, 0, none⟩) m m, .slice (some ⟨gu, 0, none⟩) n n] 63))
  rw [HW0.out] at b1 b2 hp hc hch hsz0
  go_enter Try.func42, Try.ntmps42
  go_upto_region 1 with fail
  rw [HW0.out]
  obtain ⟨g0, HG0⟩ := name_it w.heap.size
  rw [HG0.out] at b1 b2 HLOW hlv hlu hsz0 ⊢
  have hg0 : w.heap.size ≤ g0 := Nat.le_of_eq HG0.out
  clear HW0
  have b1c0 := b1.c0
  have b1c2 := b1.c2
  go_wp2_with (first
    | (at_make; refine wpList_makeF _ rfl (.tmp 16) (.tmp 16) 73 rfl 4 iB _ Try.underlying73 hiB hy0 hy1 rfl .i64 .i64 n rfl rfl (by rw [hyb]; omega) (by omega) ?_
       intro w3 hX c3
       replace b1 := b1.keep0 c3
       replace b2 := b2.keep0 c3
       replace hp := hp.keep0 c3
       replace hc := hc.keep0 c3
       replace hch := hch.then c3
       clear c3 b1c0 b1c2
       have b1c2 := b1.c2)
    | fail)
  rw [hsz0] at hX
  clear hsz0 b1c2
  go_loopw [21] (fun iv wr => ∃ j : Nat, j ≤ tn ∧ iv = .int .i64 j ∧ Fb wr (g0 + 1 + 1) n (fun b => .bool (tieJ T a b j)) ∧ Blk3 wr g0 (.slice AK n cK) (.slice AS m cS) (.slice AT tn cT) ∧ Blk3 wr (g0 + 1) (.slice AS m cS) (.slice (some ⟨gv, 0, none⟩) m m) (.slice (some ⟨gu, 0, none⟩) n n) ∧ PV.At ⟨K, S, T, n, m, tn, AK, AS, AT, cK, cS, cT⟩ wr ∧ Cnt wr ⟨K, S, T, n, m, tn, AK, AS, AT, cK, cS, cT⟩ P gv gu ∧ Chg [] w wr) (fun iv _ => tn - (intOf iv).toNat)
  case atStart => exact ⟨0, Nat.zero_le _, rfl, hX, b1, b2, hp, hc, hch⟩
  case round =>
    clear hX b1 b2 hp hc hch
    obtain ⟨j, hj, rfl, hX, b1, b2, hp, hc, hch⟩ := hrel
    by_cases hlt : j < tn
    · obtain ⟨gt, ot, rfl, hgt⟩ := hp.t.form (by rw [HTN.out]; exact Nat.lt_of_le_of_lt (Nat.zero_le _) hlt)
      have hcx := hp.t.at_ (j := j) (by rw [HTN.out]; exact hlt)
      have HST : Hid (∀ b : Nat, tieJ T a b (j + 1) = (tieJ T a b j || tiB a b (T.getD j ti0))) := Lib.hid fun b => tieJ_step (by rw [HTN.out]; exact hlt)
      have h2 := twoB_iff.1 (HTT.out j hlt)
      obtain ⟨x, hx, hxn⟩ := inB_nat h2.1
      obtain ⟨y, hy, hyn⟩ := inB_nat h2.2.1
      have hxy : x ≠ y := by have := h2.2.2; omega
      obtain ⟨t, HTJ⟩ := name_it (T.getD j ti0)
      rw [HTJ.out] at hcx HST hx hy
      obtain ⟨e0, e1, -⟩ := hcx
      have HTB : Hid (∀ b : Nat, tiB (a : Int) (b : Int) t = ((x == a && y == b) || (x == b && y == a))) := Lib.hid fun b => by
        unfold tiB; rw [hx, hy, Bool.eq_iff_iff]; simp only [Bool.or_eq_true, Bool.and_eq_true, decide_eq_true_eq, beq_iff_eq]; omega
      rw [hx] at e0
      rw [hy] at e1
      clear h2 hx hy
      have hXl := hX.lt
      have hgw : g0 + 1 + 1 ≠ wr.heap.size := Nat.ne_of_lt hXl
      have c4 : Chg [] wr (wr.alloc (.cells #[.int .i64 (x : Int), .int .i64 (y : Int)] 38)) := (Chg.refl _ _).alloc _
      have b9 := BlkTi.alloc wr (.int .i64 (x : Int)) (.int .i64 (y : Int)) 38
      have HX0 := Lib.hid hX
      have HB10 := Lib.hid b1
      have HB20 := Lib.hid b2
      have HP0 := Lib.hid hp
      have HC0 := Lib.hid hc
      have HCH0 := Lib.hid hch
      replace hX := hX.keep0 c4
      replace b1 := b1.keep0 c4
      replace b2 := b2.keep0 c4
      replace hp := hp.keep0 c4
      replace hc := hc.keep0 c4
      replace hch := hch.then c4
      clear c4
      have b9c0 := b9.c0
      have b9c1 := b9.c1
      have j1 : (0 : Int) ≤ (j : Int) := by omega
      have j2 : (j : Int) < (tn : Int) := by omega
      have x1 : (0 : Int) ≤ (x : Int) := by omega
      have x2 : (x : Int) < (n : Int) := by omega
      have y1 : (0 : Int) ≤ (y : Int) := by omega
      have y2 : (y : Int) < (n : Int) := by omega
      by_cases hxa : x = a
      · subst hxa
        have hya : ¬ y = x := fun e => hxy e.symm
        have q1 : ((y : Int) == (x : Int)) = false := by simp; omega
        have q2 : (y == x) = false := by simp [hya]
        have q3 : ¬ (y : Int) = (x : Int) := by omega
        have hcu := hX.cell y hyn
        have hcf := hX.frz y hyn
        have HXS : Hid (∀ u, Fb u (g0 + 1 + 1) n (fun b => .bool (tieJ T x b j)) → Fb (u.setCell ⟨g0 + 1 + 1, y, none⟩ (.bool true)) (g0 + 1 + 1) n (fun b => .bool (tieJ T x b (j + 1)))) := Lib.hid fun u h => h.store hyn (.bool true) _ (by rw [HST.out, HTB.out]; simp) (fun d _ e => by rw [HST.out, HTB.out]; have : (y == d) = false := (by simp; omega); rw [this]; simp [hya])
        have hcn : Chg [g0 + 1 + 1] wr (wr.setCell ⟨g0 + 1 + 1, y, none⟩ (.bool true)) := (Chg.refl [g0 + 1 + 1] _).setCell (p := ⟨g0 + 1 + 1, y, none⟩) (.inl (by simp)) _
        have c4 : Chg [] (wr.setCell ⟨g0 + 1 + 1, y, none⟩ (.bool true)) ((wr.setCell ⟨g0 + 1 + 1, y, none⟩ (.bool true)).alloc (.cells #[.int .i64 (x : Int), .int .i64 (y : Int)] 38)) := (Chg.refl _ _).alloc _
        have hXS := (HXS.out _ HX0.out).keep0 c4
        have b1S := (HB10.out.keep hcn (by simp; omega)).keep0 c4
        have b2S := (HB20.out.keep hcn (by simp)).keep0 c4
        have hpS := (HP0.out.keepL HLOW.out hcn (fun z hz => by simp at hz; omega)).keep0 c4
        have hcS : Cnt _ ⟨K, S, T, n, m, tn, AK, AS, some ⟨gt, ot, none⟩, cK, cS, cT⟩ P gv gu := Cnt.keep0 ⟨HC0.out.v.keep hcn (by simp; omega), HC0.out.u.keep hcn (by simp; omega)⟩ c4
        have hchS := (HCH0.out.setCell (p := ⟨g0 + 1 + 1, y, none⟩) (.inr (show w.heap.size ≤ g0 + 1 + 1 by omega)) (.bool true)).then c4
        have n1 : g0 + 1 + 1 ≠ wr.heap.size := hgw
        clear hcn c4 hX b1 b2 hp hc hch
        go_wp2_with fail
        go_roundw
        case rel => exact ⟨j + 1, by omega, by go_num, hXS, b1S, b2S, hpS, hcS, hchS⟩
        case measure => simp [intOf]; omega
      · have p1 : ((x : Int) == (a : Int)) = false := by simp; omega
        have p2 : (x == a) = false := by simp [hxa]
        have p3 : ¬ (x : Int) = (a : Int) := by omega
        by_cases hya : y = a
        · subst hya
          have hcu := hX.cell x hxn
          have hcf := hX.frz x hxn
          have HXS : Hid (∀ u, Fb u (g0 + 1 + 1) n (fun b => .bool (tieJ T y b j)) → Fb (u.setCell ⟨g0 + 1 + 1, x, none⟩ (.bool true)) (g0 + 1 + 1) n (fun b => .bool (tieJ T y b (j + 1)))) := Lib.hid fun u h => h.store hxn (.bool true) _ (by rw [HST.out, HTB.out]; simp) (fun d _ e => by rw [HST.out, HTB.out]; have : (x == d) = false := (by simp; omega); rw [this]; simp [hxa])
          have hcn : Chg [g0 + 1 + 1] wr (wr.setCell ⟨g0 + 1 + 1, x, none⟩ (.bool true)) := (Chg.refl [g0 + 1 + 1] _).setCell (p := ⟨g0 + 1 + 1, x, none⟩) (.inl (by simp)) _
          have c4 : Chg [] (wr.setCell ⟨g0 + 1 + 1, x, none⟩ (.bool true)) ((wr.setCell ⟨g0 + 1 + 1, x, none⟩ (.bool true)).alloc (.cells #[.int .i64 (x : Int), .int .i64 (y : Int)] 38)) := (Chg.refl _ _).alloc _
          have hXS := (HXS.out _ HX0.out).keep0 c4
          have b1S := (HB10.out.keep hcn (by simp; omega)).keep0 c4
          have b2S := (HB20.out.keep hcn (by simp)).keep0 c4
          have hpS := (HP0.out.keepL HLOW.out hcn (fun z hz => by simp at hz; omega)).keep0 c4
          have hcS : Cnt _ ⟨K, S, T, n, m, tn, AK, AS, some ⟨gt, ot, none⟩, cK, cS, cT⟩ P gv gu := Cnt.keep0 ⟨HC0.out.v.keep hcn (by simp; omega), HC0.out.u.keep hcn (by simp; omega)⟩ c4
          have hchS := (HCH0.out.setCell (p := ⟨g0 + 1 + 1, x, none⟩) (.inr (show w.heap.size ≤ g0 + 1 + 1 by omega)) (.bool true)).then c4
          have n1 : g0 + 1 + 1 ≠ wr.heap.size := hgw
          clear hcn c4 hX b1 b2 hp hc hch
          go_wp2_with fail
          go_roundw
          case rel => exact ⟨j + 1, by omega, by go_num, hXS, b1S, b2S, hpS, hcS, hchS⟩
          case measure => simp [intOf]; omega
        · have q1 : ((y : Int) == (a : Int)) = false := by simp; omega
          have q2 : (y == a) = false := by simp [hya]
          have q3 : ¬ (y : Int) = (a : Int) := by omega
          have HXS : Hid (∀ u, Fb u (g0 + 1 + 1) n (fun b => .bool (tieJ T a b j)) → Fb u (g0 + 1 + 1) n (fun b => .bool (tieJ T a b (j + 1)))) := Lib.hid fun u h => h.congr fun d _ => by rw [HST.out, HTB.out]; simp [hxa, hya]
          go_wp2_with fail
          go_roundw
          case rel => exact ⟨j + 1, by omega, by go_num, HXS.out _ hX, b1, b2, hp, hc, hch⟩
          case measure => simp [intOf]; omega
    · obtain rfl : tn = j := by omega
      have HTL : Hid (∀ b : Nat, tieJ T a b tn = tieJ T a b T.length) := Lib.hid fun b => by rw [HTN.out]
      have b1c0 := b1.c0
      clear HTT HTN
      go_wp2_with fail
      clear b1c0
      go_loopw [45] (fun iv wr => ∃ i : Nat, i ≤ n ∧ iv = .int .i64 i ∧ Fb wr (g0 + 1 + 1) n (fun b => .bool (tieJ T a b T.length || prJ LF a b i)) ∧ Blk3 wr g0 (.slice AK n cK) (.slice AS m cS) (.slice AT tn cT) ∧ Blk3 wr (g0 + 1) (.slice AS m cS) (.slice (some ⟨gv, 0, none⟩) m m) (.slice (some ⟨gu, 0, none⟩) n n) ∧ PV.At ⟨K, S, T, n, m, tn, AK, AS, AT, cK, cS, cT⟩ wr ∧ Cnt wr ⟨K, S, T, n, m, tn, AK, AS, AT, cK, cS, cT⟩ P gv gu ∧ Chg [] w wr) (fun iv _ => n - (intOf iv).toNat)
      case atStart => exact ⟨0, Nat.zero_le _, rfl, hX.congr (fun d _ => by rw [HTL.out]; simp [prJ]), b1, b2, hp, hc, hch⟩
      case round =>
        clear hX b1 b2 hp hc hch
        obtain ⟨i, hi, rfl, hX, b1, b2, hp, hc, hch⟩ := hrel
        by_cases hlt : i < n
        · obtain ⟨wo, hwo⟩ : ∃ wo, wo = wr := ⟨_, rfl⟩
          subst hwo
          have HST : Hid (∀ b, prJ LF a b (i + 1) = (prJ LF a b i || prB LF a b i)) := Lib.hid fun b => prJ_step
          have b2c0 := b2.c0
          have b2c1 := b2.c1
          have b2c2 := b2.c2
          have i1 : (0 : Int) ≤ (i : Int) := by omega
          have i2 : (i : Int) < (n : Int) := by omega
          have a1 : (0 : Int) ≤ (a : Int) := by omega
          have a2 : (a : Int) < (n : Int) := by omega
          go_wp2_with fail
          refine (HCO.out i _ hp hc hlt).mono ?_
          rintro e w6 ⟨gc, rfl, hC, hgc, c4⟩
          have hgn : g0 + 1 + 1 < gc := by have := hX.lt; omega
          replace hX := hX.keep0 c4
          replace b1 := b1.keep0 c4
          replace b2 := b2.keep0 c4
          replace hp := hp.keep0 c4
          replace hc := hc.keep0 c4
          replace hch := hch.then c4
          clear c4 b2c0 b2c1 b2c2 hgc
          by_cases hia : i = a
          · have HAC : Hid (∀ b, prB LF a b i = (i == b || LF i b)) := Lib.hid fun b => by unfold prB; rw [hia]; simp
            subst hia
            have hcu := hX.cell i hlt
            have hcf := hX.frz i hlt
            have hcn : Chg [g0 + 1 + 1] w6 (w6.setCell ⟨g0 + 1 + 1, i, none⟩ (.bool true)) := (Chg.refl [g0 + 1 + 1] _).setCell (p := ⟨g0 + 1 + 1, i, none⟩) (.inl (by simp)) _
            have hXS := hX.store hlt (.bool true) (fun b => .bool (tieJ T i b T.length || prJ LF i b i || (i == b || (decide (b < 0) && LF i b)))) (by simp) (fun d _ e => by have : (i == d) = false := (by simp; omega); rw [this]; simp)
            have b1S := b1.keep hcn (by simp; omega)
            have b2S := b2.keep hcn (by simp)
            have hpS := hp.keepL HLOW.out hcn (fun z hz => by simp at hz; omega)
            have hcS : Cnt _ ⟨K, S, T, n, m, tn, AK, AS, AT, cK, cS, cT⟩ P gv gu := ⟨hc.v.keep hcn (by simp; omega), hc.u.keep hcn (by simp; omega)⟩
            have hCS := hC.keep hcn (by simp; omega)
            have hchS := hch.setCell (p := ⟨g0 + 1 + 1, i, none⟩) (.inr (show w.heap.size ≤ g0 + 1 + 1 by omega)) (.bool true)
            clear hcn hX b1 b2 hp hc hC hch
            go_wp2_with fail
            clear hcu hcf
            go_loopw [66] (fun iv wr => ∃ c : Nat, c ≤ n ∧ iv = .int .i64 c ∧ Fb wr (g0 + 1 + 1) n (fun b => .bool (tieJ T i b T.length || prJ LF i b i || (i == b || (decide (b < c) && LF i b)))) ∧ Fb wr gc n (fun b => .bool (LF i b)) ∧ Blk3 wr g0 (.slice AK n cK) (.slice AS m cS) (.slice AT tn cT) ∧ Blk3 wr (g0 + 1) (.slice AS m cS) (.slice (some ⟨gv, 0, none⟩) m m) (.slice (some ⟨gu, 0, none⟩) n n) ∧ PV.At ⟨K, S, T, n, m, tn, AK, AS, AT, cK, cS, cT⟩ wr ∧ Cnt wr ⟨K, S, T, n, m, tn, AK, AS, AT, cK, cS, cT⟩ P gv gu ∧ Chg [] w wr) (fun iv _ => n - (intOf iv).toNat)
            case atStart => exact ⟨0, Nat.zero_le _, rfl, hXS, hCS, b1S, b2S, hpS, hcS, hchS⟩
            case round =>
              clear hXS hCS b1S b2S hpS hcS hchS
              obtain ⟨c, hcn, rfl, hX, hC, b1, b2, hp, hc, hch⟩ := hrel
              by_cases hlc : c < n
              · have hcc := hC.cell c hlc
                have k1 : (0 : Int) ≤ (c : Int) := by omega
                have k2 : (c : Int) < (n : Int) := by omega
                obtain ⟨lc, HLC⟩ := name_it (LF i c)
                rw [HLC.out] at hcc
                cases lc with
                | false =>
                  have hXN : Fb wr (g0 + 1 + 1) n (fun b => .bool (tieJ T i b T.length || prJ LF i b i || (i == b || (decide (b < c + 1) && LF i b)))) := hX.congr fun d _ => by
                    by_cases e : d = c
                    · subst e; rw [HLC.out]; simp
                    · have : decide (d < c + 1) = decide (d < c) := by rw [decide_eq_decide]; omega
                      rw [this]
                  clear hX
                  go_wp2_with fail
                  go_roundw
                  case rel => exact ⟨c + 1, by omega, by go_num, hXN, hC, b1, b2, hp, hc, hch⟩
                  case measure => simp [intOf]; omega
                | true =>
                  have hcu := hX.cell c hlc
                  have hcf := hX.frz c hlc
                  have hct : Chg [g0 + 1 + 1] wr (wr.setCell ⟨g0 + 1 + 1, c, none⟩ (.bool true)) := (Chg.refl [g0 + 1 + 1] _).setCell (p := ⟨g0 + 1 + 1, c, none⟩) (.inl (by simp)) _
                  have hXS := hX.store hlc (.bool true) (fun b => .bool (tieJ T i b T.length || prJ LF i b i || (i == b || (decide (b < c + 1) && LF i b)))) (by rw [HLC.out]; simp) (fun d _ e => by
                    have : decide (d < c + 1) = decide (d < c) := by rw [decide_eq_decide]; omega
                    rw [this])
                  have b1S := b1.keep hct (by simp; omega)
                  have b2S := b2.keep hct (by simp)
                  have hpS := hp.keepL HLOW.out hct (fun z hz => by simp at hz; omega)
                  have hcS : Cnt _ ⟨K, S, T, n, m, tn, AK, AS, AT, cK, cS, cT⟩ P gv gu := ⟨hc.v.keep hct (by simp; omega), hc.u.keep hct (by simp; omega)⟩
                  have hCS := hC.keep hct (by simp; omega)
                  have hchS := hch.setCell (p := ⟨g0 + 1 + 1, c, none⟩) (.inr (show w.heap.size ≤ g0 + 1 + 1 by omega)) (.bool true)
                  clear hct hX b1 b2 hp hc hC hch
                  go_wp2_with fail
                  go_roundw
                  case rel => exact ⟨c + 1, by omega, by go_num, hXS, hCS, b1S, b2S, hpS, hcS, hchS⟩
                  case measure => simp [intOf]; omega
              · have hXN : Fb wr (g0 + 1 + 1) n (fun b => .bool (tieJ T i b T.length || prJ LF i b (i + 1))) := hX.congr fun d hd => by
                  have e : decide (d < c) = true := decide_eq_true (by omega)
                  rw [HST.out, HAC.out, e]; simp [Bool.or_assoc]
                obtain rfl : n = c := by omega
                clear hX
                go_wp2_with fail
                go_roundw
                case rel => exact ⟨i + 1, by omega, by go_num, hXN, b1, b2, hp, hc, hch⟩
                case measure => simp [intOf]; omega
          · have q1 : ((i : Int) == (a : Int)) = false := by simp; omega
            have q2 : (i == a) = false := by simp [hia]
            have q3 : ¬ (i : Int) = (a : Int) := by omega
            have hca := hC.cell a ha
            obtain ⟨lx, HLX⟩ := name_it (LF i a)
            rw [HLX.out] at hca
            cases lx with
            | false =>
              have HNX : Hid (∀ b, prJ LF a b (i + 1) = prJ LF a b i) := Lib.hid fun b => by rw [HST.out]; unfold prB; rw [HLX.out, q2]; simp
              have hXN : Fb w6 (g0 + 1 + 1) n (fun b => .bool (tieJ T a b T.length || prJ LF a b (i + 1))) := hX.congr fun d _ => by rw [HNX.out]
              clear hX
              go_wp2_with fail
              go_roundw
              case rel => exact ⟨i + 1, by omega, by go_num, hXN, b1, b2, hp, hc, hch⟩
              case measure => simp [intOf]; omega
            | true =>
              have HAC : Hid (∀ b, prB LF a b i = (i == b || LF i b)) := Lib.hid fun b => by unfold prB; rw [HLX.out]; simp
              have hcu := hX.cell i hlt
              have hcf := hX.frz i hlt
              have hcn : Chg [g0 + 1 + 1] w6 (w6.setCell ⟨g0 + 1 + 1, i, none⟩ (.bool true)) := (Chg.refl [g0 + 1 + 1] _).setCell (p := ⟨g0 + 1 + 1, i, none⟩) (.inl (by simp)) _
              have hXS := hX.store hlt (.bool true) (fun b => .bool (tieJ T a b T.length || prJ LF a b i || (i == b || (decide (b < 0) && LF i b)))) (by simp) (fun d _ e => by have : (i == d) = false := (by simp; omega); rw [this]; simp)
              have b1S := b1.keep hcn (by simp; omega)
              have b2S := b2.keep hcn (by simp)
              have hpS := hp.keepL HLOW.out hcn (fun z hz => by simp at hz; omega)
              have hcS : Cnt _ ⟨K, S, T, n, m, tn, AK, AS, AT, cK, cS, cT⟩ P gv gu := ⟨hc.v.keep hcn (by simp; omega), hc.u.keep hcn (by simp; omega)⟩
              have hCS := hC.keep hcn (by simp; omega)
              have hchS := hch.setCell (p := ⟨g0 + 1 + 1, i, none⟩) (.inr (show w.heap.size ≤ g0 + 1 + 1 by omega)) (.bool true)
              clear hcn hX b1 b2 hp hc hC hch
              go_wp2_with fail
              clear hcu hcf
              go_loopw [66] (fun iv wr => ∃ c : Nat, c ≤ n ∧ iv = .int .i64 c ∧ Fb wr (g0 + 1 + 1) n (fun b => .bool (tieJ T a b T.length || prJ LF a b i || (i == b || (decide (b < c) && LF i b)))) ∧ Fb wr gc n (fun b => .bool (LF i b)) ∧ Blk3 wr g0 (.slice AK n cK) (.slice AS m cS) (.slice AT tn cT) ∧ Blk3 wr (g0 + 1) (.slice AS m cS) (.slice (some ⟨gv, 0, none⟩) m m) (.slice (some ⟨gu, 0, none⟩) n n) ∧ PV.At ⟨K, S, T, n, m, tn, AK, AS, AT, cK, cS, cT⟩ wr ∧ Cnt wr ⟨K, S, T, n, m, tn, AK, AS, AT, cK, cS, cT⟩ P gv gu ∧ Chg [] w wr) (fun iv _ => n - (intOf iv).toNat)
              case atStart => exact ⟨0, Nat.zero_le _, rfl, hXS, hCS, b1S, b2S, hpS, hcS, hchS⟩
              case round =>
                clear hXS hCS b1S b2S hpS hcS hchS
                obtain ⟨c, hcn, rfl, hX, hC, b1, b2, hp, hc, hch⟩ := hrel
                by_cases hlc : c < n
                · have hcc := hC.cell c hlc
                  have k1 : (0 : Int) ≤ (c : Int) := by omega
                  have k2 : (c : Int) < (n : Int) := by omega
                  obtain ⟨lc, HLC⟩ := name_it (LF i c)
                  rw [HLC.out] at hcc
                  cases lc with
                  | false =>
                    have hXN : Fb wr (g0 + 1 + 1) n (fun b => .bool (tieJ T a b T.length || prJ LF a b i || (i == b || (decide (b < c + 1) && LF i b)))) := hX.congr fun d _ => by
                      by_cases e : d = c
                      · subst e; rw [HLC.out]; simp
                      · have : decide (d < c + 1) = decide (d < c) := by rw [decide_eq_decide]; omega
                        rw [this]
                    clear hX
                    go_wp2_with fail
                    go_roundw
                    case rel => exact ⟨c + 1, by omega, by go_num, hXN, hC, b1, b2, hp, hc, hch⟩
                    case measure => simp [intOf]; omega
                  | true =>
                    have hcu := hX.cell c hlc
                    have hcf := hX.frz c hlc
                    have hct : Chg [g0 + 1 + 1] wr (wr.setCell ⟨g0 + 1 + 1, c, none⟩ (.bool true)) := (Chg.refl [g0 + 1 + 1] _).setCell (p := ⟨g0 + 1 + 1, c, none⟩) (.inl (by simp)) _
                    have hXS := hX.store hlc (.bool true) (fun b => .bool (tieJ T a b T.length || prJ LF a b i || (i == b || (decide (b < c + 1) && LF i b)))) (by rw [HLC.out]; simp) (fun d _ e => by
                      have : decide (d < c + 1) = decide (d < c) := by rw [decide_eq_decide]; omega
                      rw [this])
                    have b1S := b1.keep hct (by simp; omega)
                    have b2S := b2.keep hct (by simp)
                    have hpS := hp.keepL HLOW.out hct (fun z hz => by simp at hz; omega)
                    have hcS : Cnt _ ⟨K, S, T, n, m, tn, AK, AS, AT, cK, cS, cT⟩ P gv gu := ⟨hc.v.keep hct (by simp; omega), hc.u.keep hct (by simp; omega)⟩
                    have hCS := hC.keep hct (by simp; omega)
                    have hchS := hch.setCell (p := ⟨g0 + 1 + 1, c, none⟩) (.inr (show w.heap.size ≤ g0 + 1 + 1 by omega)) (.bool true)
                    clear hct hX b1 b2 hp hc hC hch
                    go_wp2_with fail
                    go_roundw
                    case rel => exact ⟨c + 1, by omega, by go_num, hXS, hCS, b1S, b2S, hpS, hcS, hchS⟩
                    case measure => simp [intOf]; omega
                · have hXN : Fb wr (g0 + 1 + 1) n (fun b => .bool (tieJ T a b T.length || prJ LF a b (i + 1))) := hX.congr fun d hd => by
                    have e : decide (d < c) = true := decide_eq_true (by omega)
                    rw [HST.out, HAC.out, e]; simp [Bool.or_assoc]
                  obtain rfl : n = c := by omega
                  clear hX
                  go_wp2_with fail
                  go_roundw
                  case rel => exact ⟨i + 1, by omega, by go_num, hXN, b1, b2, hp, hc, hch⟩
                  case measure => simp [intOf]; omega
        · obtain rfl : n = i := by omega
          go_wp2_with fail
          go_ret
          exact ⟨_, rfl, hX, by omega, hch⟩


theorem tie_ok {n : Nat} {T : List Ti} (h : tE n T = false) {i : Nat} (hi : i < T.length) : twoB n (T.getD i ti0).a (T.getD i ti0).b = true := by
  unfold tE at h
  rw [List.any_eq_false] at h
  have := h (T.getD i ti0) (by rw [List.getD_eq_getElem?_getD, List.getElem?_eq_getElem hi]; exact List.getElem_mem _)
  simpa using this
/-- What is known of parties without an error. -/
structure Sound (p : PV) (LF : Nat → Nat → Bool) : Prop where
  m : p.m ≤ 64
  n : p.n ≤ 32
  t : p.t ≤ 64
  g : GoodS p.K p.S
  tt : ∀ i, i < p.t → twoB p.n (p.T.getD i ti0).a (p.T.getD i ti0).b = true
  l : ∀ c, c < p.n → Least (pdOf p.K p.S) c (LF c)
theorem sound_of {p : PV} {w : World} (hp : p.At w) (h : ckP p.K p.S p.T = 0) {LF : Nat → Nat → Bool} (hL : ∀ c, Least (pdOf p.K p.S) c (LF c)) : Sound p LF := by
  have h2 := ck_zero h
  rw [hp.kn, hp.sn, hp.tn] at h2
  exact ⟨h2.2.1, h2.1, h2.2.2.1, h2.2.2.2.1, fun i hi => tie_ok h2.2.2.2.2.2.1 (by rw [hp.tn]; exact hi), fun c _ => hL c⟩

set_option maxRecDepth 20000 in
set_option maxHeartbeats 2000000 in
theorem pcircle_any (p : PV) (k : Nat) (o : Int) (LF : Nat → Nat → Bool) (w : World) (hp : p.At w) (hF : FitS p.S k) (hL : ckP p.K p.S p.T = 0 → Sound p LF) :
    Calls Try.prog 24 #[p.val, .int .i64 o] w fun e w' => ∃ v, e = .returned (.tuple #[v, .int .i64 (cfE p [⟨o⟩])]) ∧ OwnZn w' v (ctlL (cfE p [⟨o⟩]) (nrB p.T LF p.n o.toNat) p.n) ∧ (∀ x ∈ v.ownBlock.toList, w.heap.size ≤ x) ∧ Chg [] w w' := by
  have b1 := box_p p w
  have hch := chg_p p w
  replace hp := hp.keep0 hch
  have c1 : Chg [] (w.alloc (.cells #[.slice p.AK p.n p.cK, .slice p.AS p.m p.cS, .slice p.AT p.t p.cT] 26)) ((w.alloc (.cells #[.slice p.AK p.n p.cK, .slice p.AS p.m p.cS, .slice p.AT p.t p.cT] 26)).alloc (.cells #[.int .i64 o] 3)) := (Chg.refl _ _).alloc _
  have hx := sZn_new (w.alloc (.cells #[.slice p.AK p.n p.cK, .slice p.AS p.m p.cS, .slice p.AT p.t p.cT] 26)) ⟨o⟩
  rw [World.size_alloc] at hx
  have b1c0 := b1.c0
  have b1c1 := b1.c1
  have b1c2 := b1.c2
  replace b1 := b1.keep0 c1
  replace hp := hp.keep0 c1
  replace hch := hch.then c1
  clear c1
  have HC2 := Lib.hid (fun A w h1 h2 => countFor_any p k [⟨o⟩] 1 A 1 w h1 hF rfl (by omega) h2)
  have HZ : Hid (cfE p [⟨o⟩] = 0 → ∃ a : Nat, o = (a : Int) ∧ a < p.n ∧ Sound p LF) := Lib.hid fun h => by
    have h1 := cf_zero h
    obtain ⟨a, ha, hn⟩ := inB_nat (h1.2 ⟨o⟩ (by simp))
    exact ⟨a, ha, hn, hL h1.1⟩
  have HB : Hid (cfE p [⟨o⟩] ≠ 0 → ctlL (cfE p [⟨o⟩]) (nrB p.T LF p.n o.toNat) p.n = []) := Lib.hid fun h => by unfold ctlL; rw [if_neg h]
  have HG : Hid (cfE p [⟨o⟩] = 0 → ctlL (cfE p [⟨o⟩]) (nrB p.T LF p.n o.toNat) p.n = idx (nrB p.T LF p.n o.toNat) p.n) := Lib.hid fun h => if_pos h
  obtain ⟨r, HR⟩ := name_it (cfE p [⟨o⟩])
  rw [HR.out] at HC2 HZ HB HG ⊢
  clear hL
  go_enter Try.func24, Try.ntmps24
  go_wp2_with fail
  refine (HC2.out _ _ hp hx).mono ?_
  intro e w1 hpost
  have hsz1 := hpost.ch.size
  replace hp := hp.keep0 hpost.ch
  replace b1 := b1.keep0 hpost.ch
  replace hch := hch.then hpost.ch
  clear b1c0 b1c1 b1c2 hx
  by_cases h0 : r = 0
  · obtain ⟨gv, gu, rfl, hC, hgv, hgu⟩ := hpost.good h0
    obtain ⟨a, rfl, han, hSo⟩ := HZ.out h0
    have HGG := Lib.hid (HG.out h0)
    rw [Int.toNat_natCast] at HGG
    have hn32 := hSo.n
    have HCT := Lib.hid (fun w h1 h2 => circle_any p k gv gu a LF w h1 h2 hSo.m hSo.n hSo.g hF hSo.tt hSo.l han)
    clear hSo
    subst h0
    have c4 : Chg [] w1 (w1.alloc (.cells #[.slice p.AS p.m p.cS, .slice (some ⟨gv, 0, none⟩) p.m p.m, .slice (some ⟨gu, 0, none⟩) p.n p.n] 63)) := (Chg.refl _ _).alloc _
    have b6 := box_c p gv gu w1
    replace hp := hp.keep0 c4
    replace b1 := b1.keep0 c4
    replace hC := hC.keep0 c4
    replace hch := hch.then c4
    clear c4 hpost hgv hgu hsz1
    have b6c0 := b6.c0
    have b6c1 := b6.c1
    have b6c2 := b6.c2
    have b1c0 := b1.c0
    have b1c1 := b1.c1
    have b1c2 := b1.c2
    go_wp2_with fail
    refine (HCT.out _ hp hC).mono ?_
    rintro e w2 ⟨g, rfl, hX, hg, c1⟩
    have hwg := hch.size
    replace hch := hch.then c1
    clear c1 b6c0 b6c1 b6c2 b6 b1c0 b1c1 b1c2 b1
    go_wp2_with fail
    refine (list_any (nrB p.T LF p.n a) g p.n _ (by omega) hX).mono ?_
    rintro e w3 ⟨v, rfl, hown, hob, c1⟩
    have hwg2 := hch.size
    replace hch := hch.then c1
    have HO := Lib.hid hown
    have HOB : Hid (∀ x ∈ v.ownBlock.toList, w.heap.size ≤ x) := Lib.hid fun x hx => Nat.le_trans hwg2 (hob x hx)
    clear c1 hown hob
    go_wp2_with fail
    go_ret2
    exact ⟨v, rfl, by rw [Int.toNat_natCast, HGG.out]; exact HO.out, HOB.out, hch⟩
  · obtain rfl := hpost.bad h0
    have d1 : (r == 0) = false := by simp [h0]
    have d2 : (r != 0) = true := by simp [h0]
    have HBB := Lib.hid (HB.out h0)
    clear hpost
    go_wp2_with fail
    go_ret2
    exact ⟨_, rfl, by rw [HBB.out]; exact OwnZn.nil _, by simp [Value.ownBlock], hch.alloc _⟩

set_option maxRecDepth 20000 in
set_option maxHeartbeats 2000000 in
theorem pconnected_any (p : PV) (k : Nat) (o b : Int) (LF : Nat → Nat → Bool) (w : World) (hp : p.At w) (hF : FitS p.S k) (hL : ckP p.K p.S p.T = 0 → Sound p LF) :
    Calls Try.prog 22 #[p.val, .int .i64 o, .int .i64 b] w fun e w' => e = .returned (.tuple #[.bool (decide (cfE p [⟨o⟩, ⟨b⟩] = 0) && nrB p.T LF p.n o.toNat b.toNat), .int .i64 (cfE p [⟨o⟩, ⟨b⟩])]) ∧ Chg [] w w' := by
  have b1 := box_p p w
  have hch := chg_p p w
  replace hp := hp.keep0 hch
  have c1 : Chg [] (w.alloc (.cells #[.slice p.AK p.n p.cK, .slice p.AS p.m p.cS, .slice p.AT p.t p.cT] 26)) ((w.alloc (.cells #[.slice p.AK p.n p.cK, .slice p.AS p.m p.cS, .slice p.AT p.t p.cT] 26)).alloc (.cells #[.int .i64 o, .int .i64 b] 3)) := (Chg.refl _ _).alloc _
  have hx : SZn ((w.alloc (.cells #[.slice p.AK p.n p.cK, .slice p.AS p.m p.cS, .slice p.AT p.t p.cT] 26)).alloc (.cells #[.int .i64 o, .int .i64 b] 3)) (some ⟨w.heap.size + 1, 0, none⟩) [⟨o⟩, ⟨b⟩] := by
    have := BlkTi.alloc (w.alloc (.cells #[.slice p.AK p.n p.cK, .slice p.AS p.m p.cS, .slice p.AT p.t p.cT] 26)) (.int .i64 o) (.int .i64 b) 3
    rw [World.size_alloc] at this
    intro _
    refine ⟨_, 0, rfl, this.lt, fun j hj => ?_⟩
    rcases (by simp at hj; omega : j = 0 ∨ j = 1) with rfl | rfl
    · exact ⟨this.c0, this.lt⟩
    · exact ⟨this.c1, this.lt⟩
  have b1c0 := b1.c0
  have b1c1 := b1.c1
  have b1c2 := b1.c2
  replace b1 := b1.keep0 c1
  replace hp := hp.keep0 c1
  replace hch := hch.then c1
  clear c1
  have HC2 := Lib.hid (fun A w h1 h2 => countFor_any p k [⟨o⟩, ⟨b⟩] 2 A 2 w h1 hF rfl (by omega) h2)
  have HZ : Hid (cfE p [⟨o⟩, ⟨b⟩] = 0 → ∃ a c : Nat, o = (a : Int) ∧ b = (c : Int) ∧ a < p.n ∧ c < p.n ∧ Sound p LF) := Lib.hid fun h => by
    have h1 := cf_zero h
    obtain ⟨a, ha, hn⟩ := inB_nat (h1.2 ⟨o⟩ (by simp))
    obtain ⟨c, hc, hcn⟩ := inB_nat (h1.2 ⟨b⟩ (by simp))
    exact ⟨a, c, ha, hc, hn, hcn, hL h1.1⟩
  obtain ⟨r, HR⟩ := name_it (cfE p [⟨o⟩, ⟨b⟩])
  rw [HR.out] at HC2 HZ ⊢
  have HYG : Hid (r = 0 → (decide (r = 0) && nrB p.T LF p.n o.toNat b.toNat) = nrB p.T LF p.n o.toNat b.toNat) := Lib.hid fun h => by rw [h]; simp
  have HYB : Hid (r ≠ 0 → (decide (r = 0) && nrB p.T LF p.n o.toNat b.toNat) = false) := Lib.hid fun h => by simp [h]
  obtain ⟨y, HY⟩ := name_it (decide (r = 0) && nrB p.T LF p.n o.toNat b.toNat)
  rw [HY.out] at HYG HYB ⊢
  clear hL
  go_enter Try.func22, Try.ntmps22
  go_wp2_with fail
  refine (HC2.out _ _ hp hx).mono ?_
  intro e w1 hpost
  have hsz1 := hpost.ch.size
  replace hp := hp.keep0 hpost.ch
  replace b1 := b1.keep0 hpost.ch
  replace hch := hch.then hpost.ch
  clear b1c0 b1c1 b1c2 hx
  by_cases h0 : r = 0
  · obtain ⟨gv, gu, rfl, hC, hgv, hgu⟩ := hpost.good h0
    obtain ⟨a, c, rfl, rfl, han, hcn, hSo⟩ := HZ.out h0
    have HCT := Lib.hid (fun w h1 h2 => circle_any p k gv gu a LF w h1 h2 hSo.m hSo.n hSo.g hF hSo.tt hSo.l han)
    clear hSo
    subst h0
    have c4 : Chg [] w1 (w1.alloc (.cells #[.slice p.AS p.m p.cS, .slice (some ⟨gv, 0, none⟩) p.m p.m, .slice (some ⟨gu, 0, none⟩) p.n p.n] 63)) := (Chg.refl _ _).alloc _
    have b6 := box_c p gv gu w1
    replace hp := hp.keep0 c4
    replace b1 := b1.keep0 c4
    replace hC := hC.keep0 c4
    replace hch := hch.then c4
    clear c4 hpost hgv hgu hsz1
    have b6c0 := b6.c0
    have b6c1 := b6.c1
    have b6c2 := b6.c2
    have b1c0 := b1.c0
    have b1c1 := b1.c1
    have b1c2 := b1.c2
    have HBB : Hid (nrB p.T LF p.n a c = y) := Lib.hid (by have := HYG.out rfl; rw [Int.toNat_natCast, Int.toNat_natCast] at this; exact this.symm)
    go_wp2_with fail
    refine (HCT.out _ hp hC).mono ?_
    rintro e w2 ⟨g, rfl, hX, hg, c1⟩
    replace hch := hch.then c1
    clear c1 b6c0 b6c1 b6c2 b6 b1c0 b1c1 b1c2 b1
    have hxc := hX.cell c hcn
    rw [HBB.out] at hxc
    have i1 : (0 : Int) ≤ (c : Int) := by omega
    have i2 : (c : Int) < (p.n : Int) := by omega
    go_wp2_with fail
    try go_quiet (fail)
    try go_wp2_with fail
    go_ret2
    exact ⟨rfl, hch⟩
  · obtain rfl := hpost.bad h0
    have d1 : (r == 0) = false := by simp [h0]
    have d2 : (r != 0) = true := by simp [h0]
    have hy : y = false := HYB.out h0
    subst hy
    clear hpost
    go_wp2_with fail
    go_ret2
    exact ⟨rfl, hch.alloc _⟩
end Go.Proofs.Ytgdpcpbmjgaliaa
