/-
  Party: the set of controlled companies: the program's counted.controlled.
-/
import Derived.Test.YtgdpcpbmjgaliaaPX5
import Derived.Test.YtgdpcpbmjgaliaaPM2
namespace Go.Proofs.Ytgdpcpbmjgaliaa
open Go.RowKit Nd

section
variable (w : World)
theorem wpList_appendQ {ops : Array Oper} {rest : List Oper} {o : Oper} {a : Act} {Q : Exit → Act → World → Prop} (hgd : o.guard = none) (s x : Operand) (ho : o.op = .call { callee := .builtin .append, args := #[s, x], argTypes := #[22, 22] })
    (v : Value) (L : List Value) (hs : a.eval s = v) (hown : OwnQ w v L) (ad : Addr) (c : Nat) (y : Value) (hx : a.eval x = .slice (some ad) 1 c) (hr : w.cell? ad = some y) (hy : y.oneCell' = true) (hb : L.length + 1 ≤ 1000000000)
    (h : ∀ v' w', OwnQ w' v' (L ++ [y]) → Chg v.ownBlock.toList w w' → (v'.ownBlock = v.ownBlock ∨ v'.ownBlock = some w.heap.size) → wpList Try.prog ops Q rest (a.put o.dst v') w') : wpList Try.prog ops Q (o :: rest) a w := by
  refine wpList_plain hgd fun K hK => ?_
  obtain ⟨v', w', hrun, h2, h3, h4⟩ := run_appendQ w o.type v L hown ad c y hr hy hb
  unfold Oper.wp execOp
  simp only [ho, resolve, invoke, builtin, Sem.run_bind, Sem.run_pure, Result.andThen_ok, List.map_toArray, List.map_cons, List.map_nil, hs, hx, hrun]
  exact hK _ _ (h v' w' h2 h3 h4)
end
/-- The queue's values. -/
def qL (Q : List Nat) : List Value := Q.map fun (k : Nat) => .int .i64 (k : Int)
theorem qL_len (Q : List Nat) : (qL Q).length = Q.length := by unfold qL; simp
/-- What the set's block tells. -/
def rdB (w : World) (g j : Nat) : Bool := match w.cell? ⟨g, j, none⟩ with
  | some (.bool b) => b
  | _ => false
def lenV : Value → Nat
  | .slice _ n _ => n
  | _ => 0
theorem rdB_of {w : World} {g n : Nat} {X : Nat → Bool} (h : Fb w g n (fun j => .bool (X j))) : cntB (rdB w g) n = cntB X n := cntB_congr fun k hk => by unfold rdB; rw [h.cell k hk]
theorem OwnQ.len {w : World} {v : Value} {L : List Value} (h : OwnQ w v L) : lenV v = L.length := by
  obtain ⟨g, o, cap, cur, rfl, _⟩ := h; rfl
theorem infoB : ∃ i, Try.prog.info? 4 = some i ∧ i.zero = some (.bool false) ∧ i.size = 1 ∧ i.bytes = 1 :=
  info_parts (show (Try.prog.info? 4).map (fun i => (i.zero, i.size, i.bytes)) = some (some (.bool false), 1, 1) by kernel_rfl)

theorem CIn.lt {P : PD} {a : Nat} {LX D X : Nat → Bool} {h : Nat → Nat} {Q : List Nat} {x i c Z : Nat} (H : CIn P a LX D X h Q x i) (hz : Sz P Z) (hi : i < P.m) (ho : P.o i = x) (hc : P.c i = c) (hca : c ≠ a) (hX : X c = false) : h c < 256 ^ Z ∧ h c + Vn P i < 256 ^ Z := by
  have h1 := H.sum ho hc hca hX
  have h2 := hN_or (P := P) (k := c) (i := P.m) H.dx
  have h3 : hN P (fun y => y == x) c (i + 1) ≤ hN P (fun y => y == x) c P.m := hN_up (by omega)
  have h4 := hz.h (fun y => D y || y == x) c P.m (Nat.le_refl _)
  omega
theorem OwnQ.off {w : World} {v : Value} {L : List Value} {g : Nat} (_ : OwnQ w v L) (h : ∀ y ∈ v.ownBlock.toList, g < y) : OffV [g] v := by
  intro k hk hm
  simp at hm
  have := h k (by rw [hk]; simp)
  omega

set_option maxRecDepth 20000 in
set_option linter.unusedSimpArgs false in
set_option maxHeartbeats 8000000 in
theorem controlled_any (p : PV) (k gv gu a : Nat) (LX : Nat → Bool) (w : World) (hp : p.At w) (hc : Cnt w p (pdOf p.K p.S) gv gu) (hm : p.m ≤ 64) (hn : p.n ≤ 32) (hG : GoodS p.K p.S) (hF : FitS p.S k) (hL : Least (pdOf p.K p.S) a LX) :
    Calls Try.prog 38 #[cntV p gv gu, .int .i64 a] w fun e w' => ∃ g, e = .returned (.slice (some ⟨g, 0, none⟩) p.n p.n) ∧ Fb w' g p.n (fun j => .bool (LX j)) ∧ w.heap.size ≤ g ∧ Chg [] w w' := by
  have hlow := hp.low
  have HSZ := Lib.hid (hF.sz (K := p.K) (by rw [hp.sn]; exact hm))
  have hpm : (pdOf p.K p.S).m = p.m := hp.sn
  have hpn : (pdOf p.K p.S).n = p.n := hp.kn
  have HZ : Hid (ZP k ≤ 65001) := Lib.hid (ZP_le hF.le)
  have HAT : Hid (∀ i, i < p.m → (p.S.getD i stk0).ow = (((pdOf p.K p.S).o i : Nat) : Int) ∧ (p.S.getD i stk0).co = (((pdOf p.K p.S).c i : Nat) : Int) ∧ (pdOf p.K p.S).c i < p.n) := Lib.hid fun i hi => by
    have := hG.at_ (i := i) (by rw [hp.sn]; exact hi)
    exact ⟨this.1, this.2.1, by rw [← hp.kn]; exact this.2.2.2⟩
  have HPS := Lib.hid hG.ok.ps
  have HKC := Lib.hid hG.ok.kc
  have HPM := Lib.hid hpm
  have HPN := Lib.hid hpn
  have HSN : Hid (p.S.length = p.m) := Lib.hid hp.sn
  have HLX := Lib.hid hL
  obtain ⟨P, HP⟩ := name_it (pdOf p.K p.S)
  rw [HP.out] at HSZ HAT HPS HKC HPM HPN HLX hc
  have HMJ : Hid (∀ h c w, Cnt w p P gv gu → c < p.n → h < 256 ^ ZP k → Calls Try.prog 60 #[cntV p gv gu, .string (nb h), .int .i64 c] w fun e w' => e = .returned (.bool (decide (Un P c < h * 2))) ∧ Chg [] w w') := Lib.hid fun h c w h1 h2 h3 => isMajority_any p P gv gu h c (ZP k) w h1 h2 h3 (HSZ.out.u c P.m (Nat.le_refl _)) (by have := HZ.out; omega)
  have b1 := Blk3.alloc w (.slice p.AS p.m p.cS) (.slice (some ⟨gv, 0, none⟩) p.m p.m) (.slice (some ⟨gu, 0, none⟩) p.n p.n) 63
  have hch : Chg [] w (w.alloc (.cells #[.slice p.AS p.m p.cS, .slice (some ⟨gv, 0, none⟩) p.m p.m, .slice (some ⟨gu, 0, none⟩) p.n p.n] 63)) := (Chg.refl _ _).alloc _
  have hlv := hc.v.lt
  have hlu := hc.u.lt
  replace hp := hp.s.keep0 hch
  replace hc := hc.keep0 hch
  have HLOW := Lib.hid hlow.s
  obtain ⟨ai, HAI⟩ := name_it ((a : Nat) : Int)
  rw [HAI.out]
  clear hG hF hpm hpn hlow HP hL
  obtain ⟨K, S, T, n, m, tn, AK, AS, AT, cK, cS, cT⟩ := p
  dsimp only at *
  obtain ⟨iS, hiS, hz0, hz1, hzb⟩ := infoS
  obtain ⟨iB, hiB, hy0, hy1, hyb⟩ := infoB
  go_enter Try.func38, Try.ntmps38
  have b1c2 := b1.c2
  go_wp2_with (first
    | (at_make; refine wpList_makeF _ rfl (.tmp 14) (.tmp 14) 73 rfl 4 iB _ Try.underlying73 hiB hy0 hy1 rfl .i64 .i64 n rfl rfl (by rw [hyb]; omega) (by omega) ?_
       intro w3 hX c3
       replace b1 := b1.keep0 c3
       replace hp := hp.keep0 c3
       replace hc := hc.keep0 c3
       replace hch := hch.then c3
       clear c3 b1c2
       have b1c2 := b1.c2)
    | (at_make; refine wpList_makeF _ rfl (.tmp 18) (.tmp 18) 61 rfl 9 iS _ Try.underlying61 hiS hz0 hz1 rfl .i64 .i64 n rfl rfl (by rw [hzb]; omega) (by omega) ?_
       intro w4 hH c4
       have hsz3 := hX.lt
       replace b1 := b1.keep0 c4
       replace hp := hp.keep0 c4
       replace hc := hc.keep0 c4
       replace hX := hX.keep0 c4
       replace hch := hch.then c4
       clear c4 b1c2)
    | fail)
  rw [World.size_alloc] at hX hsz3
  have hq := OwnQ.one w4 (.int .i64 ai)
  have c5 : Chg [] w4 (w4.alloc (.cells #[.int .i64 ai] 3)) := (Chg.refl _ _).alloc _
  have hsz4 := hH.lt
  replace b1 := b1.keep0 c5
  replace hp := hp.keep0 c5
  replace hc := hc.keep0 c5
  replace hX := hX.keep0 c5
  replace hH := hH.keep0 c5
  replace hch := hch.then c5
  clear c5
  obtain ⟨g0, HG0⟩ := name_it w.heap.size
  rw [HG0.out] at HLOW hlv hlu b1 hX hsz3 ⊢
  have hg0 : w.heap.size ≤ g0 := Nat.le_of_eq HG0.out
  obtain ⟨gh, HGH⟩ := name_it w3.heap.size
  rw [HGH.out] at hH hsz3 hsz4 ⊢
  have hq0 : OwnQ (w4.alloc (.cells #[.int .i64 ai] 3)) (.slice (some ⟨w4.heap.size, 0, none⟩) 1 1) (qL [a]) := by rw [← HAI.out] at hq ⊢; exact hq
  have hH0 : Fb (w4.alloc (.cells #[.int .i64 ai] 3)) gh n (fun t => .string (nb 0)) := hH.congr fun t _ => by rw [nb_zero]
  obtain ⟨w5, HW5⟩ := name_it (w4.alloc (.cells #[.int .i64 ai] 3))
  rw [HW5.out] at b1 hp hc hX hq0 hH0 hch ⊢
  clear HW5 hH hq
  go_loopw [7] (fun qv wr => ∃ (D X : Nat → Bool) (hf : Nat → Nat) (Q : List Nat), CInv P a LX D X hf Q ∧ Q.length ≤ 1 + cntB X n ∧ OwnQ wr qv (qL Q) ∧ (∀ y ∈ qv.ownBlock.toList, gh < y) ∧ Fb wr (g0 + 1) n (fun j => .bool (X j)) ∧ Fb wr gh n (fun j => .string (nb (hf j))) ∧ Blk3 wr g0 (.slice AS m cS) (.slice (some ⟨gv, 0, none⟩) m m) (.slice (some ⟨gu, 0, none⟩) n n) ∧ SStk wr AS S ∧ Cnt wr ⟨K, S, T, n, m, tn, AK, AS, AT, cK, cS, cT⟩ P gv gu ∧ Chg [] w wr) (fun qv wr => (n - cntB (rdB wr (g0 + 1)) n) + lenV qv)
  case atStart => exact ⟨fun _ => false, fun _ => false, fun _ => 0, [a], CInv.start P a LX, by simp, hq0, by simp [Value.ownBlock]; omega, hX, hH0, b1, hp, hc, hch⟩
  case round =>
    clear hq0 hX hH0 b1 hp hc hch
    obtain ⟨D, X, hf, Q, hin, hql, hq, hqb, hX, hH, b1, hp, hc, hch⟩ := hrel
    have HM0 : Hid (cntB (rdB wr (g0 + 1)) n = cntB X n) := Lib.hid (rdB_of hX)
    have HIN := Lib.hid hin
    have HQB := Lib.hid hqb
    clear hin hqb
    cases Q with
    | nil =>
      clear hql
      obtain ⟨g, o, cap, rfl, hgl, hlc, hcm, -, -⟩ := hq.form
      have HLE : Hid (X = LX) := Lib.hid (HIN.out.done HPS.out HLX.out)
      rw [qL_len, List.length_nil]
      go_wp2_with fail
      go_ret
      exact ⟨g0 + 1, rfl, by rw [← HLE.out]; exact hX, by omega, hch⟩
    | cons x Q =>
      have HEN := Lib.hid HIN.out.enter
      have hlq : (qL (x :: Q)).length = Q.length + 1 := by rw [qL_len]; rfl
      obtain ⟨g, o, cap, rfl, hgl, hlc, hcm, hcell, htail⟩ := hq.form
      have hx0 : wr.cell? ⟨g, o, none⟩ = some (.int .i64 (x : Int)) := by
        have := hcell 0 (by rw [hlq]; omega)
        rw [Nat.add_zero] at this; exact this
      have htl := htail (.int .i64 (x : Int)) (qL Q) (o + 1) rfl (.inl rfl)
      have HT2 : Hid (cap = 1 → OwnQ wr (.slice (some ⟨g, o, none⟩) Q.length (cap - 1)) (qL Q)) := Lib.hid fun hc1 => by
        have := htail (.int .i64 (x : Int)) (qL Q) o rfl (.inr hc1)
        rwa [qL_len] at this
      rw [hlq] at hlc HQB ⊢
      rw [qL_len] at htl
      obtain ⟨l, HLQ⟩ := name_it Q.length
      rw [HLQ.out] at hlc htl HQB HT2 ⊢
      have HLB : Hid (l ≤ cntB X n) := Lib.hid (by rw [← HLQ.out]; rw [List.length_cons] at hql; omega)
      clear hql
      obtain ⟨xi, HXI⟩ := name_it ((x : Nat) : Int)
      rw [HXI.out] at hx0
      have HTL := Lib.hid htl
      have HGB : Hid (gh < g) := Lib.hid (HQB.out g (by simp [Value.ownBlock]))
      have d0 : decide ((0 : Int) < (l : Int) + 1) = true := decide_eq_true (by omega)
      clear hcell htail hlq htl hq HQB HIN
      have b1c0 := b1.c0
      go_wp2_with fail
      clear b1c0 d0 hx0
      all_goals
        go_loopw [7, 33] (fun qv iv wi => ∃ (i : Nat) (Y : Nat → Bool) (hg : Nat → Nat) (R : List Nat), i ≤ m ∧ iv = .int .i64 i ∧ CIn P a LX D Y hg R x i ∧ cntB Y n + l = cntB X n + R.length ∧ OwnQ wi qv (qL R) ∧ (∀ y ∈ qv.ownBlock.toList, gh < y) ∧ Fb wi (g0 + 1) n (fun j => .bool (Y j)) ∧ Fb wi gh n (fun j => .string (nb (hg j))) ∧ Blk3 wi g0 (.slice AS m cS) (.slice (some ⟨gv, 0, none⟩) m m) (.slice (some ⟨gu, 0, none⟩) n n) ∧ SStk wi AS S ∧ Cnt wi ⟨K, S, T, n, m, tn, AK, AS, AT, cK, cS, cT⟩ P gv gu ∧ Chg [] w wi) (fun _ iv _ => m - (intOf iv).toNat)
        case atStart =>
          refine ⟨0, X, hf, Q, Nat.zero_le _, rfl, HEN.out, by rw [HLQ.out], ?_, by simp [Value.ownBlock]; exact HGB.out, hX, hH, b1, hp, hc, hch⟩
          first
            | exact HTL.out
            | (have h2 := HT2.out (by assumption); rw [show cap - 1 = 0 by omega] at h2; exact h2)
        case round =>
          clear hX hH b1 hp hc hch
          obtain ⟨i, Y, hg, R, hi, rfl, hin, hcnt, hq, hqb, hX, hH, b1, hp, hc, hch⟩ := hrel
          have HIN := Lib.hid hin
          have HCNT := Lib.hid hcnt
          have HQ := Lib.hid hq
          have HQB := Lib.hid hqb
          clear hin hcnt hq hqb
          by_cases hlt : i < m
          · obtain ⟨gs, os, rfl, hgl2⟩ := hp.form (by rw [HSN.out]; exact Nat.lt_of_le_of_lt (Nat.zero_le _) hlt)
            have hgs0 : gs < g0 := by
              obtain ⟨g', o', e, h⟩ := HLOW.out (by rw [HSN.out]; exact Nat.lt_of_le_of_lt (Nat.zero_le _) hlt)
              simp only [Option.some.injEq, Addr.mk.injEq, and_true] at e
              omega
            have hcx := hp.at_ (j := i) (by rw [HSN.out]; exact hlt)
            have HA := Lib.hid (HAT.out i hlt)
            have HKI := Lib.hid (HKC.out i (by rw [HPM.out]; exact hlt))
            obtain ⟨t, HT⟩ := name_it (S.getD i stk0)
            rw [HT.out] at hcx HA
            obtain ⟨c, HC⟩ := name_it (P.c i)
            have HA1 := Lib.hid HA.out.2.1
            have HAO : Hid (t.ow = ((P.o i : Nat) : Int)) := Lib.hid HA.out.1
            have hcn := HA.out.2.2
            rw [HC.out] at hcn HA1 HKI
            obtain ⟨a0, a1, a2, a3, a4, -⟩ := hcx
            rw [HA1.out] at a1
            obtain ⟨ow, HOW⟩ := name_it t.ow
            rw [HOW.out] at a0 HAO
            have hxc : C1 wr (g0 + 1) c (.bool (Y c)) := ⟨hX.cell c hcn, hX.lt⟩
            obtain ⟨yc, HYC⟩ := name_it (Y c)
            rw [HYC.out] at hxc
            have c4 : Chg [] wr (wr.alloc (.cells #[.int .i64 ow, .int .i64 (c : Int), .bool t.vt.neg, .string t.vt.num, .string t.vt.den] 36)) := (Chg.refl _ _).alloc _
            have b10 := BlkStk.alloc wr (.int .i64 ow) (.int .i64 (c : Int)) (.bool t.vt.neg) (.string t.vt.num) (.string t.vt.den) 36
            replace b1 := b1.keep0 c4
            replace hX := hX.keep0 c4
            replace hH := hH.keep0 c4
            replace hp := hp.keep0 c4
            replace hc := hc.keep0 c4
            replace hxc := hxc.keep0 c4
            replace hch := hch.then c4
            have HQ1 := Lib.hid (HQ.out.keep0 c4)
            clear c4 HA HOW
            have b10c0 := b10.c0
            have b10c1 := b10.c1
            have hxc0 := hxc.c0
            have i1 : (0 : Int) ≤ (c : Int) := by omega
            have i2 : (c : Int) < (n : Int) := by omega
            have j1 : (0 : Int) ≤ (i : Int) := by omega
            have j2 : (i : Int) < (m : Int) := by omega
            by_cases hox : P.o i = x
            · obtain rfl : ow = xi := by rw [HAO.out, hox, HXI.out]
              by_cases hca : c = a
              · have HNX := Lib.hid (HIN.out.other (.inr (.inl (by rw [HC.out, hca]))))
                have HCA : Hid ((c : Int) = ai) := Lib.hid (by rw [hca, HAI.out])
                have d1 : ((c : Int) == ai) = true := by rw [HCA.out]; simp
                have d2 : ((c : Int) = ai) = True := by rw [HCA.out]; simp
                clear hca hox
                go_wp2_with fail
                go_roundw
                case rel => exact ⟨i + 1, Y, hg, R, by omega, by go_num, HNX.out, HCNT.out, HQ1.out, HQB.out, hX, hH, b1, hp, hc, hch⟩
                case measure => simp [intOf]; omega
              · have hcai : ¬ (c : Int) = ai := by rw [← HAI.out]; omega
                have d1 : ((c : Int) == ai) = false := by simp [hcai]
                cases yc with
                | true =>
                  have HNX := Lib.hid (HIN.out.other (.inr (.inr (by rw [HC.out]; exact HYC.out))))
                  clear hca hox
                  go_wp2_with fail
                  go_roundw
                  case rel => exact ⟨i + 1, Y, hg, R, by omega, by go_num, HNX.out, HCNT.out, HQ1.out, HQB.out, hX, hH, b1, hp, hc, hch⟩
                  case measure => simp [intOf]; omega
                | false =>
                  have HCA := Lib.hid hca
                  have HOX := Lib.hid hox
                  clear hca hox
                  go_wp2_with fail
                  have hzk := HZ.out
                  have HLT := Lib.hid (HIN.out.lt HSZ.out (by rw [HPM.out]; exact hlt) HOX.out HC.out HCA.out HYC.out)
                  have HAD := Lib.hid (fun w => nadd_any (hg c) (Vn P i) (ZP k) w HLT.out.1 (HSZ.out.v _ (by rw [HPM.out]; exact hlt)) (by omega))
                  have HMI := Lib.hid (fun w h => HMJ.out (hg c + Vn P i) c w h hcn HLT.out.2)
                  have HSAME := Lib.hid (HIN.out.same HOX.out HC.out HCA.out HYC.out)
                  have HMORE := Lib.hid (fun hh => HIN.out.more HPS.out HLX.out (by rw [HPM.out]; exact hlt) (by rw [HPN.out]; exact hcn) HKI.out HOX.out HC.out HCA.out HYC.out hh)
                  have HCU : Hid (cntB (updB Y c true) n = cntB Y n + 1) := Lib.hid (cntB_upd HYC.out hcn)
                  have hcv : C1 (wr.alloc (.cells #[.int .i64 ow, .int .i64 (c : Int), .bool t.vt.neg, .string t.vt.num, .string t.vt.den] 36)) gv i (.string (nb (Vn P i))) := ⟨hc.v.cell i hlt, hc.v.lt⟩
                  have hch1 : C1 (wr.alloc (.cells #[.int .i64 ow, .int .i64 (c : Int), .bool t.vt.neg, .string t.vt.num, .string t.vt.den] 36)) gh c (.string (nb (hg c))) := ⟨hH.cell c hcn, hH.lt⟩
                  obtain ⟨XB, HXB⟩ := name_it (nb (hg c))
                  obtain ⟨YB, HYB⟩ := name_it (nb (hg c + Vn P i))
                  obtain ⟨VB, HVB⟩ := name_it (nb (Vn P i))
                  rw [HXB.out, HVB.out, HYB.out] at HAD
                  rw [HYB.out] at HMI
                  rw [HXB.out] at hch1
                  rw [HVB.out] at hcv
                  obtain ⟨mj, HMJB⟩ := name_it (decide (Un P c < (hg c + Vn P i) * 2))
                  rw [HMJB.out] at HMI
                  obtain ⟨w5, HW5⟩ := name_it (wr.alloc (.cells #[.int .i64 ow, .int .i64 (c : Int), .bool t.vt.neg, .string t.vt.num, .string t.vt.den] 36))
                  rw [HW5.out] at b1 hX hH hp hc hcv hch1 HQ1 hch ⊢
                  have hq := HQ1.out
                  have c8 : Chg [] w5 w5.drew := (Chg.refl _ _).drew
                  replace b1 := b1.keep0 c8
                  replace hX := hX.keep0 c8
                  replace hH := hH.keep0 c8
                  replace hp := hp.keep0 c8
                  replace hc := hc.keep0 c8
                  replace hcv := hcv.keep0 c8
                  replace hch1 := hch1.keep0 c8
                  replace hq := hq.keep0 c8
                  have hcz := hch.then c8
                  clear c8 a0 a1 a2 a3 a4 hch HW5 HA1 b10 b10c0 b10c1 hxc hxc0 HQ1 hcai d1
                  refine wp_region_held_drew (S := (fun w' => w'.cell? ⟨g0, 1, none⟩ = some (.slice (some ⟨gv, 0, none⟩) m m) ∧ w'.cell? ⟨gv, i, none⟩ = some (.string VB))) (by kernel_rfl) ?_ (fun hHeld => ?_)
                  · exact ⟨b1.c1, hcv.c0⟩
                  obtain ⟨wz, HWz⟩ := name_it w5.drew
                  rw [HWz.out] at b1 hX hH hp hc hcv hch1 hq hcz hHeld ⊢
                  refine wpAnyH_take (i := 0) (v := ?_) rfl (by kernel_rfl) (by kernel_rfl) (by kernel_rfl) (fun _ _ _ h => h) (Or.inl ⟨by rfl, ?_⟩) (by assumption) ?_
                  rotate_left 1
                  · intro w hSw
                    try dsimp only at hSw
                    go_simp
                    try with_reducible rfl
                  try simp only [List.getElem_toArray, List.getElem_cons_succ, List.getElem_cons_zero]
                  try simp only [Act.put, List.setIfInBounds_toArray, List.set_cons_zero, List.set_cons_succ]
                  refine wpAnyH_take (i := 1) (v := ?_) rfl (by kernel_rfl) (by kernel_rfl) (by kernel_rfl) (fun _ _ _ h => h) (Or.inl ⟨by rfl, ?_⟩) (by assumption) ?_
                  rotate_left 1
                  · intro w hSw
                    try dsimp only at hSw
                    go_simp
                    try with_reducible rfl
                  try simp only [List.getElem_toArray, List.getElem_cons_succ, List.getElem_cons_zero]
                  try simp only [Act.put, List.setIfInBounds_toArray, List.set_cons_zero, List.set_cons_succ]
                  refine wpAnyH_take (i := 2) (v := ?_) rfl (by kernel_rfl) (by kernel_rfl) (by kernel_rfl) (fun _ _ _ h => h) (Or.inl ⟨by rfl, ?_⟩) (by assumption) ?_
                  rotate_left 1
                  · intro w hSw
                    try dsimp only at hSw
                    go_simp
                    try with_reducible rfl
                  try simp only [List.getElem_toArray, List.getElem_cons_succ, List.getElem_cons_zero]
                  try simp only [Act.put, List.setIfInBounds_toArray, List.set_cons_zero, List.set_cons_succ]
                  refine wpAnyH_take (i := 3) (v := ?_) rfl (by kernel_rfl) (by kernel_rfl) (by kernel_rfl) (fun _ _ _ h => h) (Or.inl ⟨by rfl, ?_⟩) (by assumption) ?_
                  rotate_left 1
                  · intro w hSw
                    try dsimp only at hSw
                    go_simp
                    try with_reducible rfl
                  try simp only [List.getElem_toArray, List.getElem_cons_succ, List.getElem_cons_zero]
                  try simp only [Act.put, List.setIfInBounds_toArray, List.set_cons_zero, List.set_cons_succ]
                  refine wpAnyH_take (i := 6) (v := ?_) rfl (by kernel_rfl) (by kernel_rfl) (by kernel_rfl) (fun _ _ _ h => h) (Or.inl ⟨by rfl, ?_⟩) (by assumption) ?_
                  rotate_left 1
                  · intro w hSw
                    try dsimp only at hSw
                    go_simp
                    try with_reducible rfl
                  try simp only [List.getElem_toArray, List.getElem_cons_succ, List.getElem_cons_zero]
                  try simp only [Act.put, List.setIfInBounds_toArray, List.set_cons_zero, List.set_cons_succ]
                  refine wpAnyH_take (i := 8) (v := ?_) rfl (by kernel_rfl) (by kernel_rfl) (by kernel_rfl) (fun _ _ _ h => h) (Or.inl ⟨by rfl, ?_⟩) (by assumption) ?_
                  rotate_left 1
                  · intro w hSw
                    try dsimp only at hSw
                    go_simp
                    try with_reducible rfl
                  try simp only [List.getElem_toArray, List.getElem_cons_succ, List.getElem_cons_zero]
                  try simp only [Act.put, List.setIfInBounds_toArray, List.set_cons_zero, List.set_cons_succ]
                  refine wpAnyH_take (i := 4) (v := ?_) rfl (by kernel_rfl) (by kernel_rfl) (by kernel_rfl) (fun _ _ _ h => h) (Or.inl ⟨by rfl, ?_⟩) (by assumption) ?_
                  rotate_left 1
                  · intro w hSw
                    try dsimp only at hSw
                    go_simp
                    try with_reducible rfl
                  try simp only [List.getElem_toArray, List.getElem_cons_succ, List.getElem_cons_zero]
                  try simp only [Act.put, List.setIfInBounds_toArray, List.set_cons_zero, List.set_cons_succ]
                  refine wpAnyH_take (i := 7) (v := ?_) rfl (by kernel_rfl) (by kernel_rfl) (by kernel_rfl) (fun _ _ _ h => h) (Or.inl ⟨by rfl, ?_⟩) (by assumption) ?_
                  rotate_left 1
                  · intro w hSw
                    try dsimp only at hSw
                    go_simp
                    try with_reducible rfl
                  try simp only [List.getElem_toArray, List.getElem_cons_succ, List.getElem_cons_zero]
                  try simp only [Act.put, List.setIfInBounds_toArray, List.set_cons_zero, List.set_cons_succ]
                  refine wpAnyH_take (i := 9) (v := ?_) rfl (by kernel_rfl) (by kernel_rfl) (by kernel_rfl) (fun _ _ _ h => h) (Or.inl ⟨by rfl, ?_⟩) (by assumption) ?_
                  rotate_left 1
                  · intro w hSw
                    try dsimp only at hSw
                    go_simp
                    try with_reducible rfl
                  try simp only [List.getElem_toArray, List.getElem_cons_succ, List.getElem_cons_zero]
                  try simp only [Act.put, List.setIfInBounds_toArray, List.set_cons_zero, List.set_cons_succ]
                  refine wpAnyH_take (i := 10) (v := ?_) rfl (by kernel_rfl) (by kernel_rfl) (by kernel_rfl) (fun _ _ _ h => h) (Or.inl ⟨by rfl, ?_⟩) (by assumption) ?_
                  rotate_left 1
                  · intro w hSw
                    try dsimp only at hSw
                    go_simp
                    try with_reducible rfl
                  try simp only [List.getElem_toArray, List.getElem_cons_succ, List.getElem_cons_zero]
                  try simp only [Act.put, List.setIfInBounds_toArray, List.set_cons_zero, List.set_cons_succ]
                  refine wpAnyH_ready (rs := [5]) (by kernel_rfl) (by simp) ?_
                  refine AllReadyH.cons (o := _) rfl (fun K' hK => ?_) AllReadyH.nil
                  have hcu0 := hch1.c0
                  go_simp
                  refine hK.out _ _ ?_ (fun hHeld => ?_)
                  · exact ⟨b1.c1, hcv.c0⟩
                  clear hK K'
                  try simp only [Act.put, List.setIfInBounds_toArray, List.set_cons_zero, List.set_cons_succ]
                  clear hcu0
                  refine wpAnyH_ready (rs := [11]) (by kernel_rfl) (by simp) ?_
                  refine AllReadyH.cons (o := _) rfl (fun K' hK => ?_) AllReadyH.nil
                  go_simp
                  refine (HAD.out _).mono ?_
                  rintro e9 wk1 ⟨rfl, c6⟩
                  replace b1 := b1.keep0 c6
                  replace hX := hX.keep0 c6
                  replace hH := hH.keep0 c6
                  replace hp := hp.keep0 c6
                  replace hc := hc.keep0 c6
                  replace hcv := hcv.keep0 c6
                  replace hch1 := hch1.keep0 c6
                  replace hq := hq.keep0 c6
                  replace hcz := hcz.then c6
                  clear c6
                  go_wp2_with fail
                  refine hK.out _ _ ?_ (fun hHeld => ?_)
                  · exact ⟨b1.c1, hcv.c0⟩
                  clear hK K'
                  try simp only [Act.put, List.setIfInBounds_toArray, List.set_cons_zero, List.set_cons_succ]
                  refine wpAnyH_take (i := 12) (v := ?_) rfl (by kernel_rfl) (by kernel_rfl) (by kernel_rfl) (fun _ _ _ h => h) (Or.inl ⟨by rfl, ?_⟩) (by assumption) ?_
                  rotate_left 1
                  · intro w hSw
                    try dsimp only at hSw
                    go_simp
                    try with_reducible rfl
                  try simp only [List.getElem_toArray, List.getElem_cons_succ, List.getElem_cons_zero]
                  try simp only [Act.put, List.setIfInBounds_toArray, List.set_cons_zero, List.set_cons_succ]
                  refine wpAnyH_ready (rs := [13]) (by kernel_rfl) (by simp) ?_
                  refine AllReadyH.cons (o := _) rfl (fun K' hK => ?_) AllReadyH.nil
                  have hcu0 := hH.cell c hcn
                  have hcf := hH.frz c hcn
                  have n1 : g0 ≠ gh := by omega
                  have nv : gv ≠ gh := by omega
                  go_simp
                  refine hK.out _ _ ?_ (fun hHeld => ?_)
                  · exact ⟨(b1.sto1 n1 c (.string YB)).c1, (hcv.keep ((Chg.refl [gh] _).setCell (p := ⟨gh, c, none⟩) (.inl (by simp)) (.string YB)) (by simpa using nv)).c0⟩
                  clear hK K'
                  try simp only [Act.put, List.setIfInBounds_toArray, List.set_cons_zero, List.set_cons_succ]
                  refine wpAnyH_done (by kernel_rfl) ?_ _
                  have hHS := hH.store hcn (.string YB) (fun j => .string (nb (updB hg c (hg c + Vn P i) j))) (by rw [updB_at, HYB.out]) (fun t _ e => by rw [updB_ne _ _ e])
                  have b1S := b1.sto1 n1 c (.string YB)
                  have hcn1 : Chg [gh] _ _ := (Chg.refl [gh] wk1).setCell (p := ⟨gh, c, none⟩) (.inl (by simp)) (.string YB)
                  have hXS := hX.sto (show g0 + 1 ≠ gh by omega) c (.string YB)
                  have hpS := hp.keepL HLOW.out hcn1 (by intro x hx; simp at hx; omega)
                  have hcS : Cnt _ ⟨K, S, T, n, m, tn, AK, some ⟨gs, os, none⟩, AT, cK, cS, cT⟩ P gv gu := ⟨hc.v.keep hcn1 (by simpa using nv), hc.u.keep hcn1 (by simp; omega)⟩
                  have hqS := hq.keep hcn1 (hq.off HQB.out)
                  have hchS := hcz.setCell (p := ⟨gh, c, none⟩) (.inr (show w.heap.size ≤ gh by omega)) (.string YB)
                  clear hX hH b1 hp hc hcv hch1 hcz hcu0 hcf hcn1 hq
                  go_wp2_with fail
                  obtain ⟨w6, HW6⟩ := name_it (wk1.setCell ⟨gh, c, none⟩ (.string YB))
                  rw [HW6.out] at hHS b1S hXS hpS hcS hqS hchS ⊢
                  have c8 : Chg [] w6 w6.drew := (Chg.refl _ _).drew
                  replace b1S := b1S.keep0 c8
                  replace hXS := hXS.keep0 c8
                  replace hHS := hHS.keep0 c8
                  replace hpS := hpS.keep0 c8
                  replace hcS := hcS.keep0 c8
                  replace hqS := hqS.keep0 c8
                  replace hchS := hchS.then c8
                  clear c8 HW6
                  have hhc : C1 w6.drew gh c (.string YB) := ⟨by have := hHS.cell c hcn; rw [updB_at, HYB.out] at this; exact this, hHS.lt⟩
                  go_region_held3 (fun w' => w'.cell? ⟨g0, 0, none⟩ = some (.slice (some ⟨gs, os, none⟩) m cS) ∧ w'.cell? ⟨g0, 1, none⟩ = some (.slice (some ⟨gv, 0, none⟩) m m) ∧ w'.cell? ⟨g0, 2, none⟩ = some (.slice (some ⟨gu, 0, none⟩) n n) ∧ w'.cell? ⟨gh, c, none⟩ = some (.string YB)) (first | exact ⟨b1S.c0, b1S.c1, b1S.c2, hhc.c0⟩) (first
                    | (go_at_call 60
                       refine (HMI.out _ hcS).mono ?_
                       rintro e w7 ⟨rfl, c6⟩
                       replace b1S := b1S.keep0 c6
                       replace hXS := hXS.keep0 c6
                       replace hHS := hHS.keep0 c6
                       replace hpS := hpS.keep0 c6
                       replace hcS := hcS.keep0 c6
                       replace hqS := hqS.keep0 c6
                       replace hhc := hhc.keep0 c6
                       replace hchS := hchS.then c6
                       clear c6)
                    | fail)
                  all_goals
                    cases mj with
                    | false =>
                      have HNX := Lib.hid (HSAME.out (of_decide_eq_false HMJB.out))
                      go_wp2_with fail
                      go_roundw
                      case rel => exact ⟨i + 1, Y, _, R, by omega, by go_num, HNX.out, HCNT.out, hqS, HQB.out, hXS, hHS, b1S, hpS, hcS, hchS⟩
                      case measure => simp [intOf]; omega
                    | true =>
                      have HNX := Lib.hid (HMORE.out (of_decide_eq_true HMJB.out))
                      have hxc0 : w7.cell? ⟨g0 + 1, c, none⟩ = some (.bool false) := by have := hXS.cell c hcn; rw [HYC.out] at this; exact this
                      have hxcf := hXS.frz c hcn
                      have hxl := hXS.lt
                      have c9a : Chg [g0 + 1] w7 ((w7.setCell ⟨g0 + 1, c, none⟩ (.bool true)).alloc (.cells #[.int .i64 (c : Int)] 3)) := ((Chg.refl [g0 + 1] w7).setCell (p := ⟨g0 + 1, c, none⟩) (.inl (by simp)) (.bool true)).alloc _
                      have c9b : Chg [g0 + 1] w7 ((w7.alloc (.cells #[.int .i64 (c : Int)] 3)).setCell ⟨g0 + 1, c, none⟩ (.bool true)) := ((Chg.refl [g0 + 1] w7).alloc _).setCell (p := ⟨g0 + 1, c, none⟩) (.inl (by simp)) (.bool true)
                      have hoff : OffV [g0 + 1] u7 := hqS.off (fun y hy => by have := HQB.out y hy; omega)
                      have HZA := Lib.hid (BlkZn.alloc (w7.setCell ⟨g0 + 1, c, none⟩ (.bool true)) (.int .i64 (c : Int)) 3).c0
                      have HZB := Lib.hid ((BlkZn.alloc w7 (.int .i64 (c : Int)) 3).keep ((Chg.refl [g0 + 1] _).setCell (p := ⟨g0 + 1, c, none⟩) (.inl (by simp)) (.bool true)) (by simp; omega)).c0
                      rw [World.size_setCell] at HZA
                      have HLR := Lib.hid HIN.out.nd
                      have hRl : R.length ≤ 1000 := by have := HCNT.out; have := HLB.out; have := cntB_le Y n; omega
                      have hXT := hXS.store hcn (.bool true) (fun j => .bool (updB Y c true j)) (by rw [updB_at]) (fun t _ e => by rw [updB_ne _ _ e])
                      go_wp2_with (first
                        | (at_builtin; refine wpList_appendQ _ rfl (.tmp 78) (.tmp 80) rfl _ (qL R) rfl (hqS.keep c9a hoff) _ 1 (.int .i64 (c : Int)) rfl HZA.out rfl (by rw [qL_len]; omega) ?_
                           intro v8 w8 own8 cv8 hv8
                           have c10 : Chg ((g0 + 1) :: u7.ownBlock.toList) w7 w8 := (c9a.mono (fun x hx => by simp at hx; simp [hx])).trans cv8 (fun x hx => .inl (List.mem_cons_of_mem _ hx))
                           have hXU := (hXT.keep ((Chg.refl [] _).alloc (.cells #[.int .i64 (c : Int)] 3)) (by simp)).keep cv8 (fun hm => by have := HQB.out _ hm; omega)
                           have hsz8 : w7.heap.size ≤ ((w7.setCell ⟨g0 + 1, c, none⟩ (.bool true)).alloc (.cells #[.int .i64 (c : Int)] 3)).heap.size := c9a.size)
                        | (at_builtin; refine wpList_appendQ _ rfl (.tmp 78) (.tmp 80) rfl _ (qL R) rfl (hqS.keep c9b hoff) _ 1 (.int .i64 (c : Int)) rfl HZB.out rfl (by rw [qL_len]; omega) ?_
                           intro v8 w8 own8 cv8 hv8
                           have c10 : Chg ((g0 + 1) :: u7.ownBlock.toList) w7 w8 := (c9b.mono (fun x hx => by simp at hx; simp [hx])).trans cv8 (fun x hx => .inl (List.mem_cons_of_mem _ hx))
                           have hXU := ((hXS.keep0 ((Chg.refl [] _).alloc (.cells #[.int .i64 (c : Int)] 3))).store hcn (.bool true) (fun j => .bool (updB Y c true j)) (by rw [updB_at]) (fun t _ e => by rw [updB_ne _ _ e])).keep cv8 (fun hm => by have := HQB.out _ hm; omega)
                           have hsz8 : w7.heap.size ≤ ((w7.alloc (.cells #[.int .i64 (c : Int)] 3)).setCell ⟨g0 + 1, c, none⟩ (.bool true)).heap.size := c9b.size)
                        | fail)
                      have HOWN8 : Hid (OwnQ w8 v8 (qL (R ++ [c]))) := Lib.hid (by unfold qL at own8 ⊢; rw [List.map_append]; exact own8)
                      have hhl : gh < w7.heap.size := hHS.lt
                      have HQB8 : Hid (∀ y ∈ v8.ownBlock.toList, gh < y) := Lib.hid fun y hy => by
                        rcases hv8 with h5 | h5
                        · rw [h5] at hy; exact HQB.out y hy
                        · rw [h5] at hy; simp only [Option.toList_some, List.mem_singleton] at hy; omega
                      have hnm : ∀ y, y ∈ (g0 + 1) :: u7.ownBlock.toList → y = g0 + 1 ∨ gh < y := fun y hy => by
                        rcases List.mem_cons.1 hy with h | h
                        · exact .inl h
                        · exact .inr (HQB.out y h)
                      have b1U := b1S.keep c10 (fun hm => by have := hnm _ hm; omega)
                      have hHU := hHS.keep c10 (fun hm => by have := hnm _ hm; omega)
                      have hpU := hpS.keepL HLOW.out c10 (fun y hy => by have := hnm y hy; omega)
                      have hcU : Cnt w8 ⟨K, S, T, n, m, tn, AK, some ⟨gs, os, none⟩, AT, cK, cS, cT⟩ P gv gu := ⟨hcS.v.keep c10 (fun hm => by have := hnm _ hm; omega), hcS.u.keep c10 (fun hm => by have := hnm _ hm; omega)⟩
                      have hchU := hchS.trans c10 (fun y hy => .inr (by have := hnm y hy; omega))
                      have HCN8 : Hid (cntB (updB Y c true) n + l = cntB X n + (R ++ [c]).length) := Lib.hid (by rw [HCU.out, List.length_append]; have := HCNT.out; simp; omega)
                      clear hxc0 hxcf c9a c9b hoff hXT hnm c10 cv8 own8 hv8 hXS hHS b1S hpS hcS hqS hchS
                      go_wp2_with fail
                      go_roundw
                      case rel => exact ⟨i + 1, _, _, R ++ [c], by omega, by go_num, HNX.out, HCN8.out, HOWN8.out, HQB8.out, hXU, hHU, b1U, hpU, hcU, hchU⟩
                      case measure => simp [intOf]; omega
            · have HNX := Lib.hid (HIN.out.other (.inl hox))
              have hne : ¬ ow = xi := by rw [HAO.out, ← HXI.out]; omega
              have d1 : (ow == xi) = false := by simp [hne]
              have d2 : (ow != xi) = true := by simp [hne]
              clear hox
              go_wp2_with fail
              go_roundw
              case rel => exact ⟨i + 1, Y, hg, R, by omega, by go_num, HNX.out, HCNT.out, HQ1.out, HQB.out, hX, hH, b1, hp, hc, hch⟩
              case measure => simp [intOf]; omega
          · obtain rfl : i = m := by omega
            have HLV := Lib.hid (by have := HIN.out; rw [← HPM.out] at this; exact this.leave)
            have hml : Hid (lenV u7 = R.length) := Lib.hid (by rw [HQ.out.len, qL_len])
            have hmc : Hid (cntB (rdB wr (g0 + 1)) n = cntB Y n) := Lib.hid (rdB_of hX)
            have hYn := cntB_le Y n
            go_wp2_with fail
            go_roundw
            case rel => exact ⟨_, Y, hg, R, HLV.out, by have := HCNT.out; have := HLB.out; omega, HQ.out, HQB.out, hX, hH, b1, hp, hc, hch⟩
            case measure =>
              rw [hml.out, hmc.out, HM0.out]
              have := HCNT.out
              simp only [lenV]
              omega
end Go.Proofs.Ytgdpcpbmjgaliaa
