/-
  Party: the law PartyChain.
-/
import Derived.Test.YtgdpcpbmjgaliaaPL6
namespace Go.Proofs.Ytgdpcpbmjgaliaa
open Go.RowKit Nd

theorem idx_mem {X : Nat → Bool} {z : Zn} : ∀ {n : Nat}, z ∈ idx X n → ∃ b : Nat, b < n ∧ z.x = (b : Int) ∧ X b = true
  | 0, h => by cases h
  | n + 1, h => by
    simp only [idx] at h
    split at h
    · rename_i hx
      rcases List.mem_append.1 h with h | h
      · obtain ⟨b, h1, h2, h3⟩ := idx_mem h
        exact ⟨b, by omega, h2, h3⟩
      · simp at h
        exact ⟨n, by omega, by rw [h], hx⟩
    · obtain ⟨b, h1, h2, h3⟩ := idx_mem h
      exact ⟨b, by omega, h2, h3⟩
theorem gpX {p : PV} {LF : Nat → Nat → Bool} (hg : GoodP p) (hS : Sound p LF) (a c : Nat) (ha : a < p.n) (hc : c < p.n) (w : World) (h : p.At w) :
    Calls Try.prog 19 #[p.val, .int .i64 (a : Int), .int .i64 (c : Int)] w fun e w' => e = .returned (.tuple #[.bool (LF a c), .int .i64 0]) ∧ Chg [] w w' := by
  have := pcontrols_any p 8 (a : Int) (c : Int) (LF a) w h hg.ft (fun _ => by rw [Int.toNat_natCast]; exact hS.l a ha)
  rw [cf_two_ok hg.ck (inB_of ha) (inB_of hc), Int.toNat_natCast] at this
  simpa using this

set_option maxRecDepth 20000 in
set_option maxHeartbeats 4000000 in
theorem lpchain_any (n ks : Int) (L3 : List T3) (l3 : Nat) (A3 : Option Addr) (c3 : Nat) (w : World) (hn : 0 ≤ n ∧ n ≤ 255) (hks : 0 ≤ ks ∧ ks ≤ 65535) (h3 : L3.length = l3) (hl3 : l3 ≤ 9223372036854775807) (i3 : ∀ x ∈ L3, InT3 x) (x3 : ST3 w A3 L3) :
    Calls Try.prog 10 #[.int .u8 n, .int .u16 ks, .slice A3 l3 c3] w fun e w' => e = .returned (.bool true) ∧ Chg [] w w' := by
  have HPA := Lib.hid (parties_any n ks l3 0 A3 none c3 0 L3 [] w hn hks h3 hl3 i3 x3 rfl (by omega) (fun _ h => by cases h) (fun h => absurd h (by simp)))
  clear hn hks h3 hl3 i3 x3
  go_enter Try.func10, Try.ntmps10
  go_wp2_with fail
  refine HPA.out.mono ?_
  rintro e w1 ⟨p, he, hp, hgp, hch⟩
  have he2 : e = .returned (.agg #[.slice p.AK p.n p.cK, .slice p.AS p.m p.cS, .slice p.AT p.t p.cT]) := he
  clear he HPA
  subst he2
  obtain ⟨LF, hS⟩ := leastG p w1 hp hgp.ck
  have HPS := Lib.hid hS.g.ok.ps
  have HG := Lib.hid hgp
  have HS := Lib.hid hS
  have hn7 : p.n ≤ 7 := hgp.n7
  have b1 := box_p p w1
  have c4 := chg_p p w1
  replace hp := hp.keep0 c4
  replace hch := hch.then c4
  clear c4 hgp hS
  have b1c0 := b1.c0
  have b1c1 := b1.c1
  have b1c2 := b1.c2
  go_wp2_with fail
  clear b1c0 b1c1 b1c2
  obtain ⟨g1, HG1⟩ := name_it w1.heap.size
  obtain ⟨w2, HW2⟩ := name_it (w1.alloc (.cells #[.slice p.AK p.n p.cK, .slice p.AS p.m p.cS, .slice p.AT p.t p.cT] 26))
  rw [HG1.out] at b1 ⊢
  rw [HW2.out] at b1 hp hch ⊢
  clear HW2
  go_loopw [26] (fun iv wr => ∃ i : Nat, i ≤ p.n ∧ iv = .int .i64 i ∧ Blk3 wr g1 (.slice p.AK p.n p.cK) (.slice p.AS p.m p.cS) (.slice p.AT p.t p.cT) ∧ p.At wr ∧ Chg [] w wr) (fun iv _ => p.n - (intOf iv).toNat)
  case atStart => exact ⟨0, Nat.zero_le _, rfl, b1, hp, hch⟩
  case round =>
    clear b1 hp hch
    obtain ⟨i, hi, rfl, b1, hp, hch⟩ := hrel
    by_cases hlt : i < p.n
    · obtain ⟨wo, hwo⟩ : ∃ wo, wo = wr := ⟨_, rfl⟩
      subst hwo
      have H1 := Lib.hid (gpC HG.out HS.out i hlt)
      have HLM : Hid (∀ j, j < (idx (LF i) p.n).length → ∃ b : Nat, b < p.n ∧ ((idx (LF i) p.n).getD j zn0).x = (b : Int) ∧ LF i b = true) := Lib.hid fun j h => idx_mem (memZn h)
      have HI1 : Hid ((idx (LF i) p.n).length ≤ 1000000) := Lib.hid (by have := idx_len (LF i) p.n; omega)
      obtain ⟨L, HL⟩ := name_it (idx (LF i) p.n)
      rw [HL.out] at H1 HLM HI1
      obtain ⟨l, HLN⟩ := name_it L.length
      rw [HLN.out] at HLM HI1
      have hlB : l ≤ 1000000 := HI1.out
      have b1c0 := b1.c0
      have b1c1 := b1.c1
      have b1c2 := b1.c2
      go_wp2_with fail
      refine (H1.out _ hp).mono ?_
      rintro e wa ⟨v, rfl, hown, c1⟩
      obtain ⟨A, cap, rfl, -, -, hv⟩ := hown.rds
      rw [HLN.out]
      replace b1 := b1.keep0 c1
      replace hp := hp.keep0 c1
      replace hch := hch.then c1
      clear c1 b1c0 b1c1 b1c2 hown
      go_wp2_with fail
      go_loopw [39] (fun iv wr => ∃ j : Nat, j ≤ l ∧ iv = .int .i64 j ∧ SZn wr A L ∧ Blk3 wr g1 (.slice p.AK p.n p.cK) (.slice p.AS p.m p.cS) (.slice p.AT p.t p.cT) ∧ p.At wr ∧ Chg [] w wr) (fun iv _ => l - (intOf iv).toNat)
      case atStart => exact ⟨0, Nat.zero_le _, rfl, hv, b1, hp, hch⟩
      case round =>
        clear hv b1 hp hch
        obtain ⟨j, hj, rfl, hv, b1, hp, hch⟩ := hrel
        by_cases hlj : j < l
        · obtain ⟨wo2, hwo2⟩ : ∃ wo2, wo2 = wr := ⟨_, rfl⟩
          subst hwo2
          obtain ⟨ga, oa, rfl, _⟩ := hv.form (by rw [HLN.out]; exact Nat.lt_of_le_of_lt (Nat.zero_le _) hlj)
          have hcj := (hv.at_ (j := j) (by rw [HLN.out]; exact hlj)).c0
          rw [Nat.mul_one] at hcj
          obtain ⟨b, hbn, hbx, hbl⟩ := HLM.out j hlj
          rw [hbx] at hcj
          have HBL := Lib.hid hbl
          clear hbl hbx
          have H2 := Lib.hid (gpC HG.out HS.out b hbn)
          have HMM : Hid (∀ k, k < (idx (LF b) p.n).length → ∃ c : Nat, c < p.n ∧ ((idx (LF b) p.n).getD k zn0).x = (c : Int) ∧ LF b c = true) := Lib.hid fun k h => idx_mem (memZn h)
          have HI2 : Hid ((idx (LF b) p.n).length ≤ 1000000) := Lib.hid (by have := idx_len (LF b) p.n; omega)
          have HTR : Hid (∀ c, LF b c = true → c ≠ i → LF i c = true) := Lib.hid fun c h1 h2 => (HS.out.l i hlt).trans HPS.out (HS.out.l b hbn) HBL.out h1 h2
          obtain ⟨M, HM⟩ := name_it (idx (LF b) p.n)
          rw [HM.out] at H2 HMM HI2
          obtain ⟨m, HMN⟩ := name_it M.length
          rw [HMN.out] at HMM HI2
          have hmB : m ≤ 1000000 := HI2.out
          have b1c0 := b1.c0
          have b1c1 := b1.c1
          have b1c2 := b1.c2
          have j1 : (0 : Int) ≤ (j : Int) := by omega
          have j2 : (j : Int) < (l : Int) := by omega
          go_wp2_with fail
          refine (H2.out _ hp).mono ?_
          rintro e wb ⟨u, rfl, hown, c1⟩
          obtain ⟨B, cap2, rfl, -, -, hu⟩ := hown.rds
          rw [HMN.out]
          replace hv := hv.keep0 c1
          replace b1 := b1.keep0 c1
          replace hp := hp.keep0 c1
          replace hch := hch.then c1
          clear c1 b1c0 b1c1 b1c2 hown hcj
          go_wp2_with fail
          go_loopw [51] (fun iv wr => ∃ k : Nat, k ≤ m ∧ iv = .int .i64 k ∧ SZn wr B M ∧ SZn wr (some ⟨ga, oa, none⟩) L ∧ Blk3 wr g1 (.slice p.AK p.n p.cK) (.slice p.AS p.m p.cS) (.slice p.AT p.t p.cT) ∧ p.At wr ∧ Chg [] w wr) (fun iv _ => m - (intOf iv).toNat)
          case atStart => exact ⟨0, Nat.zero_le _, rfl, hu, hv, b1, hp, hch⟩
          case round =>
            clear hu hv b1 hp hch
            obtain ⟨k, hk, rfl, hu, hv, b1, hp, hch⟩ := hrel
            by_cases hlk : k < m
            · obtain ⟨gb, ob, rfl, _⟩ := hu.form (by rw [HMN.out]; exact Nat.lt_of_le_of_lt (Nat.zero_le _) hlk)
              have hck := (hu.at_ (j := k) (by rw [HMN.out]; exact hlk)).c0
              rw [Nat.mul_one] at hck
              obtain ⟨c, hcn, hcx, hcl⟩ := HMM.out k hlk
              rw [hcx] at hck
              have HCL : Hid (c ≠ i → LF i c = true) := Lib.hid (HTR.out c hcl)
              clear hcl hcx
              have H3 := Lib.hid (gpX HG.out HS.out i c hlt hcn)
              obtain ⟨xc, HXC⟩ := name_it (LF i c)
              rw [HXC.out] at H3 HCL
              have b1c0 := b1.c0
              have b1c1 := b1.c1
              have b1c2 := b1.c2
              have k1 : (0 : Int) ≤ (k : Int) := by omega
              have k2 : (k : Int) < (m : Int) := by omega
              go_wp2_with fail
              refine (H3.out _ hp).mono ?_
              rintro e wc ⟨rfl, c1⟩
              replace hu := hu.keep0 c1
              replace hv := hv.keep0 c1
              replace b1 := b1.keep0 c1
              replace hp := hp.keep0 c1
              replace hch := hch.then c1
              clear c1 b1c0 b1c1 b1c2 hck
              by_cases hci : c = i
              · clear HCL HXC H3
                subst hci
                go_wp2_with fail
                go_roundw
                case rel => exact ⟨k + 1, by omega, by go_num, hu, hv, b1, hp, hch⟩
                case measure => simp [intOf]; omega
              · obtain rfl : xc = true := HCL.out hci
                have q1 : ((c : Int) == (i : Int)) = false := by simp; omega
                have q2 : (c == i) = false := by simp [hci]
                have q3 : ¬ (c : Int) = (i : Int) := by omega
                go_wp2_with fail
                go_roundw
                case rel => exact ⟨k + 1, by omega, by go_num, hu, hv, b1, hp, hch⟩
                case measure => simp [intOf]; omega
            · obtain rfl : m = k := by omega
              go_wp2_with fail
              go_roundw
              case rel => exact ⟨j + 1, by omega, by go_num, hv, b1, hp, hch⟩
              case measure => simp [intOf]; omega
        · obtain rfl : l = j := by omega
          go_wp2_with fail
          go_roundw
          case rel => exact ⟨i + 1, by omega, by go_num, b1, hp, hch⟩
          case measure => simp [intOf]; omega
    · obtain hin : i = p.n := by omega
      subst hin
      go_wp2_with fail
      refine (awake8_any _).mono ?_
      rintro e w6 ⟨rfl, c1⟩
      replace hch := hch.then c1
      clear c1
      go_wp2_with fail
      go_ret
      exact ⟨rfl, hch⟩
end Go.Proofs.Ytgdpcpbmjgaliaa
