/-
  Party: the law PartySymmetric.
-/
import Derived.Test.YtgdpcpbmjgaliaaPL6
namespace Go.Proofs.Ytgdpcpbmjgaliaa
open Go.RowKit Nd

theorem idx_mem {X : Nat → Bool} {z : Zn} : ∀ {n : Nat}, z ∈ idx X n → ∃ b : Nat, b < n ∧ z.x = (b : Int) ∧ X b = true
  | 0, h => by cases h
  | n + 1, h => by
    simp only [idx] at h
    split at h
    · rename_i hx
      rcases List.mem_append.1 h with h | h
      · obtain ⟨b, h1, h2, h3⟩ := idx_mem h
        exact ⟨b, by omega, h2, h3⟩
      · simp at h
        exact ⟨n, by omega, by rw [h], hx⟩
    · obtain ⟨b, h1, h2, h3⟩ := idx_mem h
      exact ⟨b, by omega, h2, h3⟩
theorem gpX {p : PV} {LF : Nat → Nat → Bool} (hg : GoodP p) (hS : Sound p LF) (a c : Nat) (ha : a < p.n) (hc : c < p.n) (w : World) (h : p.At w) :
    Calls Try.prog 19 #[p.val, .int .i64 (a : Int), .int .i64 (c : Int)] w fun e w' => e = .returned (.tuple #[.bool (LF a c), .int .i64 0]) ∧ Chg [] w w' := by
  have := pcontrols_any p 8 (a : Int) (c : Int) (LF a) w h hg.ft (fun _ => by rw [Int.toNat_natCast]; exact hS.l a ha)
  rw [cf_two_ok hg.ck (inB_of ha) (inB_of hc), Int.toNat_natCast] at this
  simpa using this

theorem tiB_sym (a b : Int) (t : Ti) : tiB a b t = tiB b a t := by
  unfold tiB; rw [Bool.or_comm]
theorem nrB_sym (T : List Ti) (LF : Nat → Nat → Bool) (n a b : Nat) : nrB T LF n a b = nrB T LF n b a := by
  have h1 : (tiB (a : Int) (b : Int)) = tiB (b : Int) (a : Int) := funext fun t => tiB_sym a b t
  have h2 : prB LF a b = prB LF b a := funext fun c => by unfold prB; rw [Bool.and_comm]
  unfold nrB tieJ prJ
  rw [h1, h2]
theorem nrB_pr {T : List Ti} {LF : Nat → Nat → Bool} {n a b c : Nat} (h : c < n) (h2 : prB LF a b c = true) : nrB T LF n a b = true := by unfold nrB; rw [prJ_hit h h2]; simp
theorem nrB_self {T : List Ti} {LF : Nat → Nat → Bool} {n a : Nat} (h : a < n) : nrB T LF n a a = true := nrB_pr h (by unfold prB; simp)
theorem gpN {p : PV} {LF : Nat → Nat → Bool} (hg : GoodP p) (hS : Sound p LF) (a c : Nat) (ha : a < p.n) (hc : c < p.n) (w : World) (h : p.At w) :
    Calls Try.prog 22 #[p.val, .int .i64 (a : Int), .int .i64 (c : Int)] w fun e w' => e = .returned (.tuple #[.bool (nrB p.T LF p.n a c), .int .i64 0]) ∧ Chg [] w w' := by
  have := pconnected_any p 8 (a : Int) (c : Int) LF w h hg.ft (fun _ => hS)
  rw [cf_two_ok hg.ck (inB_of ha) (inB_of hc), Int.toNat_natCast, Int.toNat_natCast] at this
  simpa using this

set_option maxRecDepth 20000 in
set_option maxHeartbeats 2000000 in
theorem lpsym_any (n ks : Int) (L3 : List T3) (L2 : List T2) (l3 l2 : Nat) (A3 A2 : Option Addr) (c3 c2 : Nat) (w : World) (hn : 0 ≤ n ∧ n ≤ 255) (hks : 0 ≤ ks ∧ ks ≤ 65535) (h3 : L3.length = l3) (hl3 : l3 ≤ 9223372036854775807) (i3 : ∀ x ∈ L3, InT3 x) (x3 : ST3 w A3 L3) (h2 : L2.length = l2) (hl2 : l2 ≤ 9223372036854775807) (i2 : ∀ x ∈ L2, InT2 x) (x2 : ST2 w A2 L2) :
    Calls Try.prog 11 #[.int .u8 n, .int .u16 ks, .slice A3 l3 c3, .slice A2 l2 c2] w fun e w' => e = .returned (.bool true) ∧ Chg [] w w' := by
  have HPA := Lib.hid (parties_any n ks l3 l2 A3 A2 c3 c2 L3 L2 w hn hks h3 hl3 i3 x3 h2 hl2 i2 x2)
  clear hn hks h3 hl3 i3 x3 h2 hl2 i2 x2
  go_enter Try.func11, Try.ntmps11
  go_wp2_with fail
  refine HPA.out.mono ?_
  rintro e w1 ⟨p, he, hp, hgp, hch⟩
  have he2 : e = .returned (.agg #[.slice p.AK p.n p.cK, .slice p.AS p.m p.cS, .slice p.AT p.t p.cT]) := he
  clear he HPA
  subst he2
  obtain ⟨LF, hS⟩ := leastG p w1 hp hgp.ck
  have HG := Lib.hid hgp
  have HS := Lib.hid hS
  have hn7 : p.n ≤ 7 := hgp.n7
  have ht6 : p.t ≤ 6 := hgp.t6
  have HTN : Hid (p.T.length = p.t) := Lib.hid hp.tn
  have b1 := box_p p w1
  have c4 := chg_p p w1
  replace hp := hp.keep0 c4
  replace hch := hch.then c4
  clear c4 hgp hS
  have b1c0 := b1.c0
  have b1c1 := b1.c1
  have b1c2 := b1.c2
  go_wp2_with fail
  clear b1c0 b1c1 b1c2
  obtain ⟨g1, HG1⟩ := name_it w1.heap.size
  obtain ⟨w2, HW2⟩ := name_it (w1.alloc (.cells #[.slice p.AK p.n p.cK, .slice p.AS p.m p.cS, .slice p.AT p.t p.cT] 26))
  rw [HG1.out] at b1 ⊢
  rw [HW2.out] at b1 hp hch ⊢
  clear HW2
  go_loopw [40] (fun iv wr => ∃ i : Nat, i ≤ p.n ∧ iv = .int .i64 i ∧ Blk3 wr g1 (.slice p.AK p.n p.cK) (.slice p.AS p.m p.cS) (.slice p.AT p.t p.cT) ∧ p.At wr ∧ Chg [] w wr) (fun iv _ => p.n - (intOf iv).toNat)
  case atStart => exact ⟨0, Nat.zero_le _, rfl, b1, hp, hch⟩
  case round =>
    clear b1 hp hch
    obtain ⟨i, hi, rfl, b1, hp, hch⟩ := hrel
    by_cases hlt : i < p.n
    · obtain ⟨wo, hwo⟩ : ∃ wo, wo = wr := ⟨_, rfl⟩
      subst hwo
      have H0 : Hid (∀ w, p.At w → Calls Try.prog 22 #[p.val, .int .i64 (i : Int), .int .i64 (i : Int)] w fun e w' => e = .returned (.tuple #[.bool true, .int .i64 0]) ∧ Chg [] w w') := Lib.hid fun w h => by
        have := gpN HG.out HS.out i i hlt hlt w h
        rwa [nrB_self hlt] at this
      have b1c0 := b1.c0
      have b1c1 := b1.c1
      have b1c2 := b1.c2
      go_wp2_with fail
      refine (H0.out _ hp).mono ?_
      rintro e wa ⟨rfl, c1⟩
      replace b1 := b1.keep0 c1
      replace hp := hp.keep0 c1
      replace hch := hch.then c1
      clear c1 b1c0 b1c1 b1c2 H0
      have b1c0 := b1.c0
      go_wp2_with fail
      clear b1c0
      go_loopw [59] (fun iv wr => ∃ j : Nat, j ≤ p.n ∧ iv = .int .i64 j ∧ Blk3 wr g1 (.slice p.AK p.n p.cK) (.slice p.AS p.m p.cS) (.slice p.AT p.t p.cT) ∧ p.At wr ∧ Chg [] w wr) (fun iv _ => p.n - (intOf iv).toNat)
      case atStart => exact ⟨0, Nat.zero_le _, rfl, b1, hp, hch⟩
      case round =>
        clear b1 hp hch
        obtain ⟨j, hj, rfl, b1, hp, hch⟩ := hrel
        by_cases hlj : j < p.n
        · have H1 := Lib.hid (gpN HG.out HS.out i j hlt hlj)
          have H2 : Hid (∀ w, p.At w → Calls Try.prog 22 #[p.val, .int .i64 (j : Int), .int .i64 (i : Int)] w fun e w' => e = .returned (.tuple #[.bool (nrB p.T LF p.n i j), .int .i64 0]) ∧ Chg [] w w') := Lib.hid fun w h => by
            have := gpN HG.out HS.out j i hlj hlt w h
            rwa [nrB_sym] at this
          obtain ⟨y, HY⟩ := name_it (nrB p.T LF p.n i j)
          rw [HY.out] at H1 H2
          have e1 : (y != y) = false := by simp
          have b1c0 := b1.c0
          have b1c1 := b1.c1
          have b1c2 := b1.c2
          go_wp2_with fail
          refine (H1.out _ hp).mono ?_
          rintro e wb ⟨rfl, c1⟩
          replace b1 := b1.keep0 c1
          replace hp := hp.keep0 c1
          replace hch := hch.then c1
          clear c1 b1c0 b1c1 b1c2 H1
          have b1c0 := b1.c0
          have b1c1 := b1.c1
          have b1c2 := b1.c2
          go_wp2_with fail
          refine (H2.out _ hp).mono ?_
          rintro e wc ⟨rfl, c1⟩
          replace b1 := b1.keep0 c1
          replace hp := hp.keep0 c1
          replace hch := hch.then c1
          clear c1 b1c0 b1c1 b1c2 H2
          go_wp2_with fail
          go_roundw
          case rel => exact ⟨j + 1, by omega, by go_num, b1, hp, hch⟩
          case measure => simp [intOf]; omega
        · have hjn : j = p.n := by omega
          subst hjn
          clear hlj hj
          have H1 := Lib.hid (gpC HG.out HS.out i hlt)
          have HLM : Hid (∀ j, j < (idx (LF i) p.n).length → ∃ b : Nat, b < p.n ∧ ((idx (LF i) p.n).getD j zn0).x = (b : Int) ∧ LF i b = true) := Lib.hid fun j h => idx_mem (memZn h)
          have HI1 : Hid ((idx (LF i) p.n).length ≤ 1000000) := Lib.hid (by have := idx_len (LF i) p.n; omega)
          obtain ⟨L, HL⟩ := name_it (idx (LF i) p.n)
          rw [HL.out] at H1 HLM HI1
          obtain ⟨l, HLN⟩ := name_it L.length
          rw [HLN.out] at HLM HI1
          have hlB : l ≤ 1000000 := HI1.out
          obtain ⟨wo2, hwo2⟩ : ∃ wo2, wo2 = wr := ⟨_, rfl⟩
          subst hwo2
          have b1c0 := b1.c0
          have b1c1 := b1.c1
          have b1c2 := b1.c2
          go_wp2_with fail
          refine (H1.out _ hp).mono ?_
          rintro e wa ⟨v, rfl, hown, c1⟩
          obtain ⟨A, cap, rfl, -, -, hv⟩ := hown.rds
          rw [HLN.out]
          replace b1 := b1.keep0 c1
          replace hp := hp.keep0 c1
          replace hch := hch.then c1
          clear c1 b1c0 b1c1 b1c2 hown H1
          go_wp2_with fail
          go_loopw [88] (fun iv wr => ∃ j : Nat, j ≤ l ∧ iv = .int .i64 j ∧ SZn wr A L ∧ Blk3 wr g1 (.slice p.AK p.n p.cK) (.slice p.AS p.m p.cS) (.slice p.AT p.t p.cT) ∧ p.At wr ∧ Chg [] w wr) (fun iv _ => l - (intOf iv).toNat)
          case atStart => exact ⟨0, Nat.zero_le _, rfl, hv, b1, hp, hch⟩
          case round =>
            clear hv b1 hp hch
            obtain ⟨j, hj, rfl, hv, b1, hp, hch⟩ := hrel
            by_cases hlj : j < l
            · obtain ⟨wo3, hwo3⟩ : ∃ wo3, wo3 = wr := ⟨_, rfl⟩
              subst hwo3
              obtain ⟨ga, oa, rfl, _⟩ := hv.form (by rw [HLN.out]; exact Nat.lt_of_le_of_lt (Nat.zero_le _) hlj)
              have hcj := (hv.at_ (j := j) (by rw [HLN.out]; exact hlj)).c0
              rw [Nat.mul_one] at hcj
              obtain ⟨b, hbn, hbx, hbl⟩ := HLM.out j hlj
              rw [hbx] at hcj
              have HBL := Lib.hid hbl
              clear hbl hbx
              have j1 : (0 : Int) ≤ (j : Int) := by omega
              have j2 : (j : Int) < (l : Int) := by omega
              go_wp2_with fail
              clear hcj
              go_loopw [94] (fun iv wr => ∃ k : Nat, k ≤ l ∧ iv = .int .i64 k ∧ SZn wr (some ⟨ga, oa, none⟩) L ∧ Blk3 wr g1 (.slice p.AK p.n p.cK) (.slice p.AS p.m p.cS) (.slice p.AT p.t p.cT) ∧ p.At wr ∧ Chg [] w wr) (fun iv _ => l - (intOf iv).toNat)
              case atStart => exact ⟨0, Nat.zero_le _, rfl, hv, b1, hp, hch⟩
              case round =>
                clear hv b1 hp hch
                obtain ⟨k, hk, rfl, hv, b1, hp, hch⟩ := hrel
                by_cases hlk : k < l
                · have hck := (hv.at_ (j := k) (by rw [HLN.out]; exact hlk)).c0
                  rw [Nat.mul_one] at hck
                  obtain ⟨c, hcn, hcx, hcl⟩ := HLM.out k hlk
                  rw [hcx] at hck
                  have H2 : Hid (∀ w, p.At w → Calls Try.prog 22 #[p.val, .int .i64 (b : Int), .int .i64 (c : Int)] w fun e w' => e = .returned (.tuple #[.bool true, .int .i64 0]) ∧ Chg [] w w') := Lib.hid fun w h => by
                    have := gpN HG.out HS.out b c hbn hcn w h
                    rwa [nrB_pr hlt (by unfold prB; rw [HBL.out, hcl]; simp)] at this
                  have H3 : Hid (∀ w, p.At w → Calls Try.prog 22 #[p.val, .int .i64 (i : Int), .int .i64 (c : Int)] w fun e w' => e = .returned (.tuple #[.bool true, .int .i64 0]) ∧ Chg [] w w') := Lib.hid fun w h => by
                    have := gpN HG.out HS.out i c hlt hcn w h
                    rwa [nrB_pr hlt (by unfold prB; rw [hcl]; simp)] at this
                  clear hcl hcx
                  have b1c0 := b1.c0
                  have b1c1 := b1.c1
                  have b1c2 := b1.c2
                  have k1 : (0 : Int) ≤ (k : Int) := by omega
                  have k2 : (k : Int) < (l : Int) := by omega
                  go_wp2_with fail
                  refine (H2.out _ hp).mono ?_
                  rintro e wb ⟨rfl, c1⟩
                  replace hv := hv.keep0 c1
                  replace b1 := b1.keep0 c1
                  replace hp := hp.keep0 c1
                  replace hch := hch.then c1
                  clear c1 b1c0 b1c1 b1c2 hck H2
                  have b1c0 := b1.c0
                  have b1c1 := b1.c1
                  have b1c2 := b1.c2
                  go_wp2_with fail
                  refine (H3.out _ hp).mono ?_
                  rintro e wc ⟨rfl, c1⟩
                  replace hv := hv.keep0 c1
                  replace b1 := b1.keep0 c1
                  replace hp := hp.keep0 c1
                  replace hch := hch.then c1
                  clear c1 b1c0 b1c1 b1c2 H3
                  go_wp2_with fail
                  go_roundw
                  case rel => exact ⟨k + 1, by omega, by go_num, hv, b1, hp, hch⟩
                  case measure => simp [intOf]; omega
                · obtain rfl : l = k := by omega
                  go_wp2_with fail
                  go_roundw
                  case rel => exact ⟨j + 1, by omega, by go_num, hv, b1, hp, hch⟩
                  case measure => simp [intOf]; omega
            · obtain rfl : l = j := by omega
              go_wp2_with fail
              go_roundw
              case rel => exact ⟨i + 1, by omega, by go_num, b1, hp, hch⟩
              case measure => simp [intOf]; omega
    · have hin : i = p.n := by omega
      subst hin
      clear hlt hi
      obtain ⟨K, S, T, pn, pm, pt, AK, AS, AT, cK, cS, cT⟩ := p
      dsimp only at *
      have b1c2 := b1.c2
      go_wp2_with fail
      clear b1c2
      go_loopw [124] (fun iv wr => ∃ j : Nat, j ≤ pt ∧ iv = .int .i64 j ∧ Blk3 wr g1 (.slice AK pn cK) (.slice AS pm cS) (.slice AT pt cT) ∧ PV.At ⟨K, S, T, pn, pm, pt, AK, AS, AT, cK, cS, cT⟩ wr ∧ Chg [] w wr) (fun iv _ => pt - (intOf iv).toNat)
      case atStart => exact ⟨0, Nat.zero_le _, rfl, b1, hp, hch⟩
      case round =>
        clear b1 hp hch
        obtain ⟨j, hj, rfl, b1, hp, hch⟩ := hrel
        by_cases hlj : j < pt
        · obtain ⟨gt, ot, rfl, hgt⟩ := hp.t.form (by rw [HTN.out]; exact Nat.lt_of_le_of_lt (Nat.zero_le _) hlj)
          have hcx := hp.t.at_ (j := j) (by rw [HTN.out]; exact hlj)
          have h2 := twoB_iff.1 (HS.out.tt j hlj)
          obtain ⟨x, hx, hxn⟩ := inB_nat h2.1
          obtain ⟨y, hy, hyn⟩ := inB_nat h2.2.1
          have H1 : Hid (∀ w, PV.At ⟨K, S, T, pn, pm, pt, AK, AS, some ⟨gt, ot, none⟩, cK, cS, cT⟩ w → Calls Try.prog 22 #[PV.val ⟨K, S, T, pn, pm, pt, AK, AS, some ⟨gt, ot, none⟩, cK, cS, cT⟩, .int .i64 (x : Int), .int .i64 (y : Int)] w fun e w' => e = .returned (.tuple #[.bool true, .int .i64 0]) ∧ Chg [] w w') := Lib.hid fun w h => by
            have h7 := gpN HG.out HS.out x y hxn hyn w h
            have h8 : nrB T LF pn x y = true := by unfold nrB; rw [tieJ_hit (j := j) (by rw [HTN.out]; exact hlj) (by unfold tiB; rw [hx, hy]; simp)]; rfl
            rwa [h8] at h7
          obtain ⟨f0, f1, -⟩ := hcx
          rw [hx] at f0
          rw [hy] at f1
          clear h2 hx hy
          have c4 : Chg [] wr (wr.alloc (.cells #[.int .i64 (x : Int), .int .i64 (y : Int)] 38)) := (Chg.refl _ _).alloc _
          have b9 := BlkTi.alloc wr (.int .i64 (x : Int)) (.int .i64 (y : Int)) 38
          replace b1 := b1.keep0 c4
          replace hp := hp.keep0 c4
          replace hch := hch.then c4
          clear c4
          have b9c0 := b9.c0
          have b9c1 := b9.c1
          have b1c0 := b1.c0
          have b1c1 := b1.c1
          have b1c2 := b1.c2
          have j1 : (0 : Int) ≤ (j : Int) := by omega
          have j2 : (j : Int) < (pt : Int) := by omega
          go_wp2_with fail
          refine (H1.out _ hp).mono ?_
          rintro e wb ⟨rfl, c1⟩
          replace b1 := b1.keep0 c1
          replace hp := hp.keep0 c1
          replace hch := hch.then c1
          clear c1 b1c0 b1c1 b1c2 H1 b9c0 b9c1 f0 f1
          go_wp2_with fail
          go_roundw
          case rel => exact ⟨j + 1, by omega, by go_num, b1, hp, hch⟩
          case measure => simp [intOf]; omega
        · have hjt : j = pt := by omega
          subst hjt
          go_wp2_with fail
          refine (awake8_any _).mono ?_
          rintro e w6 ⟨rfl, c1⟩
          replace hch := hch.then c1
          clear c1
          go_wp2_with fail
          go_ret
          exact ⟨rfl, hch⟩
end Go.Proofs.Ytgdpcpbmjgaliaa
