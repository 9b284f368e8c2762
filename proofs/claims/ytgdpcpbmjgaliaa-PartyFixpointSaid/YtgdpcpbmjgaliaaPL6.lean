/-
  Party: the law PartyBuilt.
-/
import Derived.Test.YtgdpcpbmjgaliaaPB
import Derived.Test.YtgdpcpbmjgaliaaPR6
namespace Go.Proofs.Ytgdpcpbmjgaliaa
open Go.RowKit Nd

theorem leastG (p : PV) (w : World) (hp : p.At w) (h : ckP p.K p.S p.T = 0) : ∃ LF, Sound p LF := by
  have hc : ∀ c, ∃ X, Least (pdOf p.K p.S) c X := fun c => least_exists (pdOf p.K p.S) c (ck_zero h).2.2.2.1.ok.ps
  exact ⟨fun c => Classical.choose (hc c), sound_of hp h fun c => Classical.choose_spec (hc c)⟩
theorem ctl0 (X : Nat → Bool) (n : Nat) : ctlL 0 X n = idx X n := if_pos rfl
/-- What the functions answer for valid parties. -/
theorem gpC {p : PV} {LF : Nat → Nat → Bool} (hg : GoodP p) (hS : Sound p LF) (c : Nat) (hc : c < p.n) (w : World) (h : p.At w) :
    Calls Try.prog 17 #[p.val, .int .i64 (c : Int)] w fun e w' => ∃ v, e = .returned (.tuple #[v, .int .i64 0]) ∧ OwnZn w' v (idx (LF c) p.n) ∧ Chg [] w w' := by
  have := pcontrolled_any p 8 (c : Int) (LF c) w h hg.ft (fun _ => by rw [Int.toNat_natCast]; exact hS.l c hc)
  rw [cf_one_ok hg.ck (inB_of hc), ctl0] at this
  exact this.mono fun e w' ⟨v, h1, h2, _, h4⟩ => ⟨v, h1, h2, h4⟩
theorem gpRC {p : PV} {LF : Nat → Nat → Bool} (hg : GoodP p) (hS : Sound p LF) (c : Nat) (hc : c < p.n) (w : World) (h : p.At w) :
    Calls Try.prog 18 #[p.val, .int .i64 (c : Int)] w fun e w' => ∃ v, e = .returned (.tuple #[v, .int .i64 0]) ∧ OwnZn w' v (idx (LF c) p.n) ∧ Chg [] w w' := by
  have := rControlled_any p 8 (c : Int) (LF c) w h hg.ft (fun _ => by rw [Int.toNat_natCast]; exact hS.l c hc)
  rw [cf_one_ok hg.ck (inB_of hc), ctl0] at this
  exact this.mono fun e w' ⟨v, h1, h2, _, h4⟩ => ⟨v, h1, h2, h4⟩
theorem gpK {p : PV} {LF : Nat → Nat → Bool} (hg : GoodP p) (hS : Sound p LF) (c : Nat) (hc : c < p.n) (w : World) (h : p.At w) :
    Calls Try.prog 24 #[p.val, .int .i64 (c : Int)] w fun e w' => ∃ v, e = .returned (.tuple #[v, .int .i64 0]) ∧ OwnZn w' v (idx (nrB p.T LF p.n c) p.n) ∧ Chg [] w w' := by
  have := pcircle_any p 8 (c : Int) LF w h hg.ft (fun _ => hS)
  rw [cf_one_ok hg.ck (inB_of hc), ctl0, Int.toNat_natCast] at this
  exact this.mono fun e w' ⟨v, h1, h2, _, h4⟩ => ⟨v, h1, h2, h4⟩
theorem gpRK {p : PV} {LF : Nat → Nat → Bool} (hg : GoodP p) (hS : Sound p LF) (c : Nat) (hc : c < p.n) (w : World) (h : p.At w) :
    Calls Try.prog 25 #[p.val, .int .i64 (c : Int)] w fun e w' => ∃ v, e = .returned (.tuple #[v, .int .i64 0]) ∧ OwnZn w' v (idx (nrB p.T LF p.n c) p.n) ∧ Chg [] w w' := by
  have := rCircle_any p 8 (c : Int) LF w h hg.ft (fun _ => hS)
  rw [cf_one_ok hg.ck (inB_of hc), ctl0, Int.toNat_natCast] at this
  exact this.mono fun e w' ⟨v, h1, h2, _, h4⟩ => ⟨v, h1, h2, h4⟩

set_option maxRecDepth 20000 in
set_option maxHeartbeats 4000000 in
theorem lpbuilt_any (n ks : Int) (L3 : List T3) (L2 : List T2) (l3 l2 : Nat) (A3 A2 : Option Addr) (c3 c2 : Nat) (w : World) (hn : 0 ≤ n ∧ n ≤ 255) (hks : 0 ≤ ks ∧ ks ≤ 65535) (h3 : L3.length = l3) (hl3 : l3 ≤ 9223372036854775807) (i3 : ∀ x ∈ L3, InT3 x) (x3 : ST3 w A3 L3) (h2 : L2.length = l2) (hl2 : l2 ≤ 9223372036854775807) (i2 : ∀ x ∈ L2, InT2 x) (x2 : ST2 w A2 L2) :
    Calls Try.prog 7 #[.int .u8 n, .int .u16 ks, .slice A3 l3 c3, .slice A2 l2 c2] w fun e w' => e = .returned (.bool true) ∧ Chg [] w w' := by
  have HPA := Lib.hid (parties_any n ks l3 l2 A3 A2 c3 c2 L3 L2 w hn hks h3 hl3 i3 x3 h2 hl2 i2 x2)
  clear hn hks h3 hl3 i3 x3 h2 hl2 i2 x2
  go_enter Try.func7, Try.ntmps7
  go_wp2_with fail
  refine HPA.out.mono ?_
  rintro e w1 ⟨p, he, hp, hgp, hch⟩
  have he2 : e = .returned (.agg #[.slice p.AK p.n p.cK, .slice p.AS p.m p.cS, .slice p.AT p.t p.cT]) := he
  clear he HPA
  subst he2
  obtain ⟨LF, hS⟩ := leastG p w1 hp hgp.ck
  have HCK : Hid (∀ w, p.At w → Calls Try.prog 14 #[p.val] w fun e w' => e = .returned (.int .i64 0) ∧ Chg [] w w') := Lib.hid fun w h => by
    have := check_any p 8 w h hgp.ft
    rwa [hgp.ck] at this
  have HG := Lib.hid hgp
  have HS := Lib.hid hS
  have hn7 : p.n ≤ 7 := hgp.n7
  have b1 := box_p p w1
  have c4 := chg_p p w1
  replace hp := hp.keep0 c4
  replace hch := hch.then c4
  clear c4 hgp hS
  have b1c0 := b1.c0
  have b1c1 := b1.c1
  have b1c2 := b1.c2
  go_wp2_with fail
  refine (HCK.out _ hp).mono ?_
  rintro e w2 ⟨rfl, c1⟩
  replace b1 := b1.keep0 c1
  replace hp := hp.keep0 c1
  replace hch := hch.then c1
  clear c1 b1c0 b1c1 b1c2 HCK
  have b1c0 := b1.c0
  go_wp2_with fail
  clear b1c0
  obtain ⟨g1, HG1⟩ := name_it w1.heap.size
  rw [HG1.out] at b1 ⊢
  go_loopw [30] (fun iv wr => ∃ i : Nat, i ≤ p.n ∧ iv = .int .i64 i ∧ Blk3 wr g1 (.slice p.AK p.n p.cK) (.slice p.AS p.m p.cS) (.slice p.AT p.t p.cT) ∧ p.At wr ∧ Chg [] w wr) (fun iv _ => p.n - (intOf iv).toNat)
  case atStart => exact ⟨0, Nat.zero_le _, rfl, b1, hp, hch⟩
  case round =>
    clear b1 hp hch
    obtain ⟨i, hi, rfl, b1, hp, hch⟩ := hrel
    by_cases hlt : i < p.n
    · have H1 := Lib.hid (gpC HG.out HS.out i hlt)
      have H2 := Lib.hid (gpRC HG.out HS.out i hlt)
      have H3 := Lib.hid (gpK HG.out HS.out i hlt)
      have H4 := Lib.hid (gpRK HG.out HS.out i hlt)
      have HI1 : Hid ((idx (LF i) p.n).length ≤ 1000000) := Lib.hid (by have := idx_len (LF i) p.n; omega)
      have HI2 : Hid ((idx (nrB p.T LF p.n i) p.n).length ≤ 1000000) := Lib.hid (by have := idx_len (nrB p.T LF p.n i) p.n; omega)
      obtain ⟨L, HL⟩ := name_it (idx (LF i) p.n)
      obtain ⟨M, HM⟩ := name_it (idx (nrB p.T LF p.n i) p.n)
      rw [HL.out] at H1 H2 HI1
      rw [HM.out] at H3 H4 HI2
      obtain ⟨l, HLN⟩ := name_it L.length
      obtain ⟨m, HMN⟩ := name_it M.length
      rw [HLN.out] at HI1
      rw [HMN.out] at HI2
      have b1c0 := b1.c0
      have b1c1 := b1.c1
      have b1c2 := b1.c2
      go_wp2_with fail
      refine (H1.out _ hp).mono ?_
      rintro e wa ⟨v, rfl, hown, c1⟩
      obtain ⟨A, cap, rfl, -, -, hv⟩ := hown.rds
      rw [HLN.out]
      replace b1 := b1.keep0 c1
      replace hp := hp.keep0 c1
      replace hch := hch.then c1
      clear c1 b1c0 b1c1 b1c2 hown
      have b1c0 := b1.c0
      have b1c1 := b1.c1
      have b1c2 := b1.c2
      go_wp2_with fail
      refine (H2.out _ hp).mono ?_
      rintro e wb ⟨u, rfl, hown, c1⟩
      obtain ⟨B, cap2, rfl, -, -, hu⟩ := hown.rds
      rw [HLN.out]
      replace hv := hv.keep0 c1
      replace b1 := b1.keep0 c1
      replace hp := hp.keep0 c1
      replace hch := hch.then c1
      clear c1 b1c0 b1c1 b1c2 hown
      have b1c0 := b1.c0
      have b1c1 := b1.c1
      have b1c2 := b1.c2
      go_wp2_with fail
      refine (H3.out _ hp).mono ?_
      rintro e wc ⟨v3, rfl, hown, c1⟩
      obtain ⟨A3, cap3, rfl, -, -, hv3⟩ := hown.rds
      rw [HMN.out]
      replace hv := hv.keep0 c1
      replace hu := hu.keep0 c1
      replace b1 := b1.keep0 c1
      replace hp := hp.keep0 c1
      replace hch := hch.then c1
      clear c1 b1c0 b1c1 b1c2 hown
      have b1c0 := b1.c0
      have b1c1 := b1.c1
      have b1c2 := b1.c2
      go_wp2_with fail
      refine (H4.out _ hp).mono ?_
      rintro e wd ⟨v4, rfl, hown, c1⟩
      obtain ⟨A4, cap4, rfl, -, -, hv4⟩ := hown.rds
      rw [HMN.out]
      replace hv := hv.keep0 c1
      replace hu := hu.keep0 c1
      replace hv3 := hv3.keep0 c1
      replace b1 := b1.keep0 c1
      replace hp := hp.keep0 c1
      replace hch := hch.then c1
      clear c1 b1c0 b1c1 b1c2 hown
      go_wp2_with fail
      refine (sameZ_any L l A B cap cap2 _ HLN.out HI1.out hv hu).mono ?_
      rintro e we ⟨rfl, c1⟩
      replace hv3 := hv3.keep0 c1
      replace hv4 := hv4.keep0 c1
      replace b1 := b1.keep0 c1
      replace hp := hp.keep0 c1
      replace hch := hch.then c1
      clear c1 hv hu
      go_wp2_with fail
      refine (sameZ_any M m A3 A4 cap3 cap4 _ HMN.out HI2.out hv3 hv4).mono ?_
      rintro e wf ⟨rfl, c1⟩
      replace b1 := b1.keep0 c1
      replace hp := hp.keep0 c1
      replace hch := hch.then c1
      clear c1 hv3 hv4
      go_wp2_with fail
      go_roundw
      case rel => exact ⟨i + 1, by omega, by go_num, b1, hp, hch⟩
      case measure => simp [intOf]; omega
    · obtain hin : i = p.n := by omega
      subst hin
      go_wp2_with fail
      refine (awake8_any _).mono ?_
      rintro e w6 ⟨rfl, c1⟩
      replace hch := hch.then c1
      clear c1
      go_wp2_with fail
      go_ret
      exact ⟨rfl, hch⟩
end Go.Proofs.Ytgdpcpbmjgaliaa
