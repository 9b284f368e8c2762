/-
  Party: the reference's controlled.
-/
import Derived.Test.YtgdpcpbmjgaliaaPX8
import Derived.Test.YtgdpcpbmjgaliaaPR2
namespace Go.Proofs.Ytgdpcpbmjgaliaa
open Go.RowKit Nd

def zl (s : List Nat) : List Zn := s.map fun (k : Nat) => (⟨(k : Int)⟩ : Zn)
theorem zl_len (s : List Nat) : (zl s).length = s.length := by unfold zl; simp
theorem zl_snoc (s : List Nat) (c : Nat) : zl (s ++ [c]) = zl s ++ [⟨(c : Int)⟩] := by unfold zl; simp
theorem has_zl (s : List Nat) (c : Nat) : hasB (zl s) (c : Int) = memB s c := by
  rw [Bool.eq_iff_iff]
  unfold hasB zl memB
  simp only [List.any_eq_true, List.mem_map, decide_eq_true_eq]
  constructor
  · rintro ⟨z, ⟨k, hk, rfl⟩, e⟩
    have : k = c := by have : ((k : Nat) : Int) = (c : Int) := e; omega
    rw [← this]; exact hk
  · intro h; exact ⟨⟨c⟩, ⟨c, h, rfl⟩, rfl⟩
def qh : Q3 := ⟨false, ⟨#[1]⟩, ⟨#[2]⟩⟩
theorem half_num : ((1 : Rat) / 2).num = 1 := by
  have e : (1 : Rat) / 2 = mkRat 1 2 := by rw [Rat.mkRat_eq_div]; rfl
  rw [e]; rfl
theorem half_den : ((1 : Rat) / 2).den = 2 := by
  have e : (1 : Rat) / 2 = mkRat 1 2 := by rw [Rat.mkRat_eq_div]; rfl
  rw [e]; rfl
theorem Val_qh : Val qh ((1 : Rat) / 2) 1 := by
  refine ⟨⟨?_, ?_, ?_⟩, ⟨?_, ?_⟩⟩
  · rw [half_num]; rfl
  · rw [half_num]; exact ⟨rfl, by simp [nolead, qh]⟩
  · rw [half_den]; exact ⟨rfl, by simp [nolead, qh]⟩
  · rw [half_num]; decide
  · rw [half_den]; decide
def bN : Value → Nat
  | .bool true => 1
  | _ => 0

set_option maxRecDepth 20000 in
set_option linter.unusedSimpArgs false in
set_option maxHeartbeats 4000000 in
theorem rcontrolled_any (p : PV) (k a : Nat) (LX : Nat → Bool) (w : World) (hp : p.At w) (hm : p.m ≤ 64) (hn : p.n ≤ 32) (hG : GoodS p.K p.S) (hF : FitS p.S k) (hL : Least (pdOf p.K p.S) a LX) :
    Calls Try.prog 39 #[p.val, .int .i64 (a : Int)] w fun e w' => ∃ v, e = .returned v ∧ OwnZn w' v (idx LX p.n) ∧ (∀ x ∈ v.ownBlock.toList, w.heap.size ≤ x) ∧ Chg [] w w' := by
  have HLOW := Lib.hid hp.low
  have HPS := Lib.hid hG.ok.ps
  have HPM : Hid ((pdOf p.K p.S).m = p.m) := Lib.hid hp.sn
  have HPN : Hid ((pdOf p.K p.S).n = p.n) := Lib.hid hp.kn
  have HKN : Hid (p.K.length = p.n) := Lib.hid hp.kn
  have HCP : Hid (∀ c, (pdOf p.K p.S).cp c = decide ((p.K.getD c zn0).x = 2)) := Lib.hid fun _ => rfl
  have HVO : Hid (∀ (s : List Nat) (l : Nat) (A : Option Addr) (cap c : Nat) (w : World), p.At w → s.length = l → l ≤ 1000000 → SZn w A (zl s) → Calls Try.prog 34 #[p.val, .slice A l cap, .int .i64 (a : Int), .int .i64 (c : Int)] w fun e w' => ∃ z, e = .returned (.agg #[.bool z.neg, .string z.num, .string z.den]) ∧ Val z (hQ (pdOf p.K p.S) (fun x => x == a || memB s x) c (pdOf p.K p.S).m) (KV k 64) ∧ Chg [] w w') := Lib.hid fun s l A cap c w h1 h2 h3 h4 => by
    rw [HPM.out]
    refine rvotes_any p k (zl s) l A cap (a : Int) c _ w h1 hm hG hF (by rw [zl_len]; exact h2) h3 h4 fun i hi => ?_
    have e := (hG.at_ (i := i) (by rw [h1.sn]; exact hi)).1
    rw [e, has_zl]
    show ((pdOf p.K p.S).o i == a || memB s ((pdOf p.K p.S).o i)) = _
    have d : decide ((a : Int) < 0) = false := decide_eq_false (by omega)
    rw [d, Bool.false_or]; congr 1
    rw [Bool.eq_iff_iff, beq_iff_eq, decide_eq_true_eq]; omega
  have HLE : Hid (∀ z q w, Val z q (KV k 64) → Calls Try.prog 32 #[.agg #[.bool false, .string ⟨#[1]⟩, .string ⟨#[2]⟩], .agg #[.bool z.neg, .string z.num, .string z.den]] w fun e w' => e = .returned (.bool (decide ((1 : Rat) / 2 < q))) ∧ Chg [] w w') := Lib.hid fun z q w h => rLess_any qh z ((1 : Rat) / 2) q 1 (KV k 64) w Val_qh h (by have := hF.le; unfold KV; omega)
  have HLX := Lib.hid hL
  obtain ⟨P, HP⟩ := name_it (pdOf p.K p.S)
  rw [HP.out] at HPS HPM HPN HCP HVO HLX
  have c1 : Chg [] (w.alloc (.cells #[.slice p.AK p.n p.cK, .slice p.AS p.m p.cS, .slice p.AT p.t p.cT] 26)) ((w.alloc (.cells #[.slice p.AK p.n p.cK, .slice p.AS p.m p.cS, .slice p.AT p.t p.cT] 26)).alloc (.cells #[.bool false, .string ⟨#[1]⟩, .string ⟨#[2]⟩] 33)) := (Chg.refl _ _).alloc _
  have b1 := (box_p p w).keep0 c1
  have b6 := Blk3.alloc (w.alloc (.cells #[.slice p.AK p.n p.cK, .slice p.AS p.m p.cS, .slice p.AT p.t p.cT] 26)) (.bool false) (.string ⟨#[1]⟩) (.string ⟨#[2]⟩) 33
  rw [World.size_alloc] at b6
  have hch := (chg_p p w).then c1
  replace hp := hp.keep0 hch
  clear c1 hG hF hL HP hm
  obtain ⟨K, S, T, n, m, tn, AK, AS, AT, cK, cS, cT⟩ := p
  dsimp only at *
  obtain ⟨ai, HAI⟩ := name_it ((a : Nat) : Int)
  rw [HAI.out] at HVO ⊢
  go_enter Try.func39, Try.ntmps39
  go_wp2_with fail
  obtain ⟨w0, HW0⟩ := name_it ((w.alloc (.cells #[.slice AK n cK, .slice AS m cS, .slice AT tn cT] 26)).alloc (.cells #[.bool false, .string ⟨#[1]⟩, .string ⟨#[2]⟩] 33))
  rw [HW0.out] at b1 b6 hp hch ⊢
  obtain ⟨g0, HG0⟩ := name_it w.heap.size
  rw [HG0.out] at b1 b6 HLOW ⊢
  have hg0 : w.heap.size ≤ g0 := Nat.le_of_eq HG0.out
  clear HW0
  go_loopw [5, 7] (fun sv mv wr => ∃ (s : List Nat) (mb : Bool), mv = .bool mb ∧ RInv P a LX s ∧ OwnZn wr sv (zl s) ∧ (∀ x ∈ sv.ownBlock.toList, g0 + 1 < x) ∧ (mb = false → ∀ c, c < n → FF P a (memB s) c = true → c ∈ s) ∧ Blk3 wr g0 (.slice AK n cK) (.slice AS m cS) (.slice AT tn cT) ∧ Blk3 wr (g0 + 1) (.bool false) (.string ⟨#[1]⟩) (.string ⟨#[2]⟩) ∧ PV.At ⟨K, S, T, n, m, tn, AK, AS, AT, cK, cS, cT⟩ wr ∧ Chg [] w wr) (fun sv mv _ => 2 * (32 - lenV sv) + bN mv)
  case atStart => exact ⟨[], true, rfl, RInv.nil P a LX, OwnZn.nil _, (by simp [Value.ownBlock]), (fun h => by cases h), b1, b6, hp, hch⟩
  case round =>
    clear b1 b6 hp hch
    obtain ⟨s, mb, rfl, hri, hown, hblk, hcl, b1, b6, hp, hch⟩ := hrel
    have HRI := Lib.hid hri
    have HBK := Lib.hid hblk
    have HCL := Lib.hid hcl
    obtain ⟨A1, cp1, rfl, -, -, hsz⟩ := hown.rds
    have HL : Hid (s.length ≤ n) := Lib.hid (by have := hri.len; rwa [HPN.out] at this)
    clear hri hblk hcl
    obtain ⟨l, HLN⟩ := name_it s.length
    rw [HLN.out] at HL
    rw [zl_len, HLN.out] at hown HBK ⊢
    cases mb with
    | false =>
      have HME : Hid (memB s = LX) := Lib.hid (RInv.done HLX.out HRI.out fun c hc hf => HCL.out rfl c (by rw [← HPN.out]; exact hc) hf)
      clear HCL
      obtain ⟨B1, HB1⟩ := name_it wr.heap.size
      have hB1 : B1 ≤ wr.heap.size := Nat.le_of_eq HB1.out.symm
      have HSL := Lib.hid hsz.form
      rw [HB1.out] at HSL
      have hb6l : g0 + 1 < B1 := by have := b6.lt; have := HB1.out; omega
      clear hown HBK b6 hp
      go_wp2_with fail
      go_loopw [9, 10] (fun ov iv wr => ∃ i : Nat, i ≤ n ∧ iv = .int .i64 i ∧ OwnZn wr ov (idx LX i) ∧ (∀ x ∈ ov.ownBlock.toList, B1 ≤ x) ∧ SZn wr A1 (zl s) ∧ Blk3 wr g0 (.slice AK n cK) (.slice AS m cS) (.slice AT tn cT) ∧ B1 ≤ wr.heap.size ∧ Chg [] w wr) (fun _ iv _ => n - (intOf iv).toNat)
      case atStart => exact ⟨0, Nat.zero_le _, rfl, OwnZn.nil _, by simp [Value.ownBlock], hsz, b1, hB1, hch⟩
      case round =>
        clear hsz b1 hB1 hch
        obtain ⟨i, hi, rfl, hown, hblk, hsz, b1, hB1, hch⟩ := hrel
        have HOWN := Lib.hid hown
        have HPB := Lib.hid hblk
        clear hown hblk
        have b1c0 := b1.c0
        obtain ⟨A2, cp2, rfl, -, -, -⟩ := HOWN.out.rds
        have HLEN := Lib.hid (idx_len LX i)
        obtain ⟨l2, HL2⟩ := name_it (idx LX i).length
        rw [HL2.out] at HOWN HPB HLEN ⊢
        by_cases hlt : i < n
        · have HID : Hid (idx LX (i + 1) = if LX i then idx LX i ++ [⟨(i : Int)⟩] else idx LX i) := Lib.hid rfl
          have HHC : Hid (∀ w, SZn w A1 (zl s) → Calls Try.prog 41 #[.slice A1 l cp1, .int .i64 (i : Int)] w fun e w' => e = .returned (.bool (LX i)) ∧ w = w') := Lib.hid fun w h => by
            have := rhas_any (zl s) l A1 cp1 (i : Int) w (by rw [zl_len]; exact HLN.out) (by have := HL.out; omega) h
            rwa [has_zl, HME.out] at this
          obtain ⟨xi, HXI⟩ := name_it (LX i)
          rw [HXI.out] at HID HHC
          have i1 : (0 : Int) ≤ (i : Int) := by omega
          have i2 : (i : Int) < (n : Int) := by omega
          go_wp2_with fail
          refine (HHC.out _ hsz).mono ?_
          rintro e w6 ⟨rfl, hw⟩
          subst hw
          clear b1c0
          cases xi with
          | false =>
            go_wp2_with fail
            go_roundw
            case rel => exact ⟨i + 1, by omega, by go_num, by rw [HID.out]; exact HOWN.out, HPB.out, hsz, b1, hB1, hch⟩
            case measure => simp [intOf]; omega
          | true =>
            have c4 : Chg [] wr (wr.alloc (.cells #[.int .i64 (i : Int)] 3)) := (Chg.refl _ _).alloc _
            go_wp2_with (at_builtin; refine wpList_appendZn _ rfl (.tmp 60) (.tmp 62) rfl _ (idx LX i) rfl (HOWN.out.keep0 c4) _ 1 ⟨(i : Int)⟩ rfl (sZn_new _ ⟨(i : Int)⟩) (by rw [HL2.out]; have := HLEN.out; omega) ?_)
            intro v5 w5 own5 cv5 hv5
            obtain ⟨A5, l5, cp5, rfl⟩ : ∃ A l c, v5 = .slice A l c := by obtain ⟨A, c, h, _⟩ := own5.rds; exact ⟨A, _, c, h⟩
            have HO5 := Lib.hid own5
            have HPB5 : Hid (∀ x ∈ (Value.slice A5 l5 cp5).ownBlock.toList, B1 ≤ x) := Lib.hid fun x hx => by
              rcases hv5 with h5 | h5
              · rw [h5] at hx; exact HPB.out x hx
              · rw [h5] at hx; simp at hx; omega
            have c7 : Chg (Value.slice A2 l2 cp2).ownBlock.toList wr w5 := (c4.mono (fun x hx => by cases hx)).trans cv5 (fun x hx => .inl hx)
            have hsz5 := hsz.keepL HSL.out c7 (fun x hx => HPB.out x hx)
            have b15 := b1.keep c7 (fun hm => by have := HPB.out _ hm; omega)
            have hB5 := Nat.le_trans hB1 c7.size
            have hcw := hch.size
            have hch5 : Chg [] w w5 := hch.trans c7 (fun x hx => .inr (by have := HPB.out x hx; omega))
            clear own5 cv5 hv5 hsz b1 hB1 hch c7 c4 hcw
            go_wp2_with fail
            go_roundw
            case rel => exact ⟨i + 1, by omega, by go_num, by rw [HID.out]; exact HO5.out, HPB5.out, hsz5, b15, hB5, hch5⟩
            case measure => simp [intOf]; omega
        · obtain rfl : n = i := by omega
          go_wp2_with fail
          go_ret
          exact ⟨_, rfl, HOWN.out, (fun x hx => by have := HPB.out x hx; omega), hch⟩
    | true =>
      clear HCL
      obtain ⟨wo, hwo⟩ : ∃ wo, wo = wr := ⟨_, rfl⟩
      subst hwo
      go_wp2_with fail
      go_loopw [5, 7, 8] (fun sv mv cv wr => ∃ (c : Nat) (s2 : List Nat) (mb : Bool), c ≤ n ∧ cv = .int .i64 c ∧ mv = .bool mb ∧ RInv P a LX s2 ∧ l ≤ s2.length ∧ (mb = true → l < s2.length) ∧ (mb = false → ∀ d, d < c → FF P a (memB s2) d = true → d ∈ s2) ∧ OwnZn wr sv (zl s2) ∧ (∀ x ∈ sv.ownBlock.toList, g0 + 1 < x) ∧ Blk3 wr g0 (.slice AK n cK) (.slice AS m cS) (.slice AT tn cT) ∧ Blk3 wr (g0 + 1) (.bool false) (.string ⟨#[1]⟩) (.string ⟨#[2]⟩) ∧ PV.At ⟨K, S, T, n, m, tn, AK, AS, AT, cK, cS, cT⟩ wr ∧ Chg [] w wr) (fun _ _ cv _ => n - (intOf cv).toNat)
      case atStart => exact ⟨0, s, false, Nat.zero_le _, rfl, rfl, HRI.out, Nat.le_of_eq HLN.out.symm, (fun h => by cases h), (fun _ d hd => absurd hd (Nat.not_lt_zero d)), hown, HBK.out, b1, b6, hp, hch⟩
      case round =>
        clear hown b1 b6 hp hch hsz HBK
        obtain ⟨c, s2, mb, hc, rfl, rfl, hri, hll, hmt, hcl, hown, hblk, b1, b6, hp, hch⟩ := hrel
        have HR2 := Lib.hid hri
        have HLL := Lib.hid hll
        have HMT := Lib.hid hmt
        have HCL := Lib.hid hcl
        have HBK := Lib.hid hblk
        have HL2 : Hid (s2.length ≤ n) := Lib.hid (by have := hri.len; rwa [HPN.out] at this)
        clear hri hll hmt hcl hblk
        obtain ⟨A2, cp2, rfl, -, -, hsv⟩ := hown.rds
        obtain ⟨l2, HLN2⟩ := name_it s2.length
        rw [HLN2.out] at HL2 HLL HMT
        rw [zl_len, HLN2.out] at hown HBK ⊢
        by_cases hlt : c < n
        · obtain ⟨gk, ok, rfl, hgk⟩ := hp.k.form (by rw [HKN.out]; exact Nat.lt_of_le_of_lt (Nat.zero_le _) hlt)
          have hck := hp.k.at_ (j := c) (by rw [HKN.out]; exact hlt)
          rw [Nat.mul_one] at hck
          have HCPC := Lib.hid (HCP.out c)
          obtain ⟨kd, HKD⟩ := name_it ((K.getD c zn0).x)
          rw [HKD.out] at HCPC
          have hckc : CZn wr gk (ok + c) ⟨kd⟩ := ⟨by rw [← HKD.out]; exact hck.c0, hck.l⟩
          have k1 : (0 : Int) ≤ (c : Int) := by omega
          have k2 : (c : Int) < (n : Int) := by omega
          have b1c0 := b1.c0
          go_upto_region 9 with fail
          clear b1c0
          clear hck
          have HFF := Lib.hid (FF_iff (P := P) (a := a) (X := memB s2) (k := c))
          have HADD : Hid (c ≠ a → P.cp c = true → memB s2 c = false → (1 : Rat) / 2 < hQ P (fun x => x == a || memB s2 x) c P.m → RInv P a LX (s2 ++ [c])) := Lib.hid fun h1 h2 h3 h4 => HR2.out.add HPS.out HLX.out (by rw [HPN.out]; exact hlt) h1 h2 (of_decide_eq_false h3) h4
          have HVC := Lib.hid (fun w h1 h4 => HVO.out s2 l2 A2 cp2 c w h1 HLN2.out (by have := HL2.out; omega) h4)
          have HLC := Lib.hid (fun z w h => HLE.out z (hQ P (fun x => x == a || memB s2 x) c P.m) w h)
          have HHC : Hid (∀ w, SZn w A2 (zl s2) → Calls Try.prog 41 #[.slice A2 l2 cp2, .int .i64 (c : Int)] w fun e w' => e = .returned (.bool (memB s2 c)) ∧ w = w') := Lib.hid fun w h => by
            have := rhas_any (zl s2) l2 A2 cp2 (c : Int) w (by rw [zl_len]; exact HLN2.out) (by have := HL2.out; omega) h
            rwa [has_zl] at this
          obtain ⟨mc, HMC⟩ := name_it (memB s2 c)
          obtain ⟨Q, HQ⟩ := name_it (hQ P (fun x => x == a || memB s2 x) c P.m)
          rw [HMC.out] at HADD HHC
          rw [HQ.out] at HFF HADD HVC HLC
          obtain ⟨lt, HLT⟩ := name_it (decide ((1 : Rat) / 2 < Q))
          rw [HLT.out] at HLC
          by_cases hca : c = a
          · have HNX : Hid (mb = false → ∀ d, d < c + 1 → FF P a (memB s2) d = true → d ∈ s2) := Lib.hid fun h d hd hf => by
              by_cases e : d = c
              · subst e; exact absurd hca (HFF.out.1 hf).1
              · exact HCL.out h d (by omega) hf
            obtain rfl : ai = (c : Int) := by rw [hca]; exact HAI.out.symm
            clear HADD HFF hca
            have HLL2 : Hid (l ≤ s2.length) := Lib.hid (by rw [HLN2.out]; exact HLL.out)
            have HMT2 : Hid (mb = true → l < s2.length) := Lib.hid (by rw [HLN2.out]; exact HMT.out)
            have b1c0 := b1.c0
            have hk0 : wr.cell? ⟨gk, ok + c, none⟩ = some (.int .i64 kd) := hckc.c0
            go_quiet (fail)
            have c8 : Chg [] wr (wr.drewN nq) := (Chg.refl _ _).drewN _
            replace hown := hown.keep0 c8
            replace b1 := b1.keep0 c8
            replace b6 := b6.keep0 c8
            replace hp := hp.keep0 c8
            replace hch := hch.then c8
            clear c8 b1c0 hk0
            all_goals
              go_wp2_with fail
              go_roundw
              case rel => exact ⟨c + 1, s2, mb, by omega, by go_num, rfl, HR2.out, HLL2.out, HMT2.out, HNX.out, hown, HBK.out, b1, b6, hp, hch⟩
              case measure => simp [intOf]; omega
          · have q1 : ((c : Int) == ai) = false := by rw [← HAI.out]; simp; omega
            have q2 : ((c : Int) != ai) = true := by rw [← HAI.out]; simp; omega
            have q3 : ¬ (c : Int) = ai := by rw [← HAI.out]; omega
            by_cases hk2 : kd = 2
            · subst hk2
              have HCT : Hid (P.cp c = true) := Lib.hid (by rw [HCPC.out]; rfl)
              cases mc with
              | true =>
                have HNX : Hid (mb = false → ∀ d, d < c + 1 → FF P a (memB s2) d = true → d ∈ s2) := Lib.hid fun h d hd hf => by
                  by_cases e : d = c
                  · subst e; exact of_decide_eq_true HMC.out
                  · exact HCL.out h d (by omega) hf
                clear HADD HFF hca
                have HLL2 : Hid (l ≤ s2.length) := Lib.hid (by rw [HLN2.out]; exact HLL.out)
                have HMT2 : Hid (mb = true → l < s2.length) := Lib.hid (by rw [HLN2.out]; exact HMT.out)
                have b1c0 := b1.c0
                have hk0 : wr.cell? ⟨gk, ok + c, none⟩ = some (.int .i64 2) := hckc.c0
                go_quiet ((go_at_call 41; exact Calls.quiet_of_same ((HHC.out _ (hsv.keep0 ((Chg.refl [] _).drewN _))).mono fun _ _ h => ⟨h.1, h.2.symm⟩)))
                have c8 : Chg [] wr (wr.drewN nq) := (Chg.refl _ _).drewN _
                replace hown := hown.keep0 c8
                replace b1 := b1.keep0 c8
                replace b6 := b6.keep0 c8
                replace hp := hp.keep0 c8
                replace hch := hch.then c8
                clear c8 b1c0 hk0
                all_goals
                  go_wp2_with fail
                  go_roundw
                  case rel => exact ⟨c + 1, s2, mb, by omega, by go_num, rfl, HR2.out, HLL2.out, HMT2.out, HNX.out, hown, HBK.out, b1, b6, hp, hch⟩
                  case measure => simp [intOf]; omega
              | false =>
                cases lt with
                | false =>
                  have HNX : Hid (mb = false → ∀ d, d < c + 1 → FF P a (memB s2) d = true → d ∈ s2) := Lib.hid fun h d hd hf => by
                    by_cases e : d = c
                    · subst e; exact absurd (HFF.out.1 hf).2.2 (of_decide_eq_false HLT.out)
                    · exact HCL.out h d (by omega) hf
                  clear HADD HFF hca
                  have HLL2 : Hid (l ≤ s2.length) := Lib.hid (by rw [HLN2.out]; exact HLL.out)
                  have HMT2 : Hid (mb = true → l < s2.length) := Lib.hid (by rw [HLN2.out]; exact HMT.out)
                  have c8 : Chg [] wr wr.drew := (Chg.refl _ _).drew
                  replace hown := hown.keep0 c8
                  replace hsv := hsv.keep0 c8
                  replace hckc := hckc.keep0 c8
                  replace b1 := b1.keep0 c8
                  replace b6 := b6.keep0 c8
                  replace hp := hp.keep0 c8
                  replace hch := hch.then c8
                  clear c8
                  go_region_held3 (fun w' => w'.cell? ⟨g0, 0, none⟩ = some (.slice (some ⟨gk, ok, none⟩) n cK) ∧ w'.cell? ⟨g0, 1, none⟩ = some (.slice AS m cS) ∧ w'.cell? ⟨g0, 2, none⟩ = some (.slice AT tn cT) ∧ w'.cell? ⟨g0 + 1, 0, none⟩ = some (.bool false) ∧ w'.cell? ⟨g0 + 1, 1, none⟩ = some (.string ⟨#[1]⟩) ∧ w'.cell? ⟨g0 + 1, 2, none⟩ = some (.string ⟨#[2]⟩) ∧ w'.cell? ⟨gk, ok + c, none⟩ = some (.int .i64 2)) (first | exact ⟨b1.c0, b1.c1, b1.c2, b6.c0, b6.c1, b6.c2, hckc.c0⟩) (first
                        | (go_at_call 41
                           refine (HHC.out _ hsv).mono ?_
                           rintro e w6 ⟨rfl, rfl⟩)
                        | (go_at_call 34
                           refine (HVC.out _ hp hsv).mono ?_
                           rintro e w7 ⟨z, rfl, hz, c6⟩
                           have HZV := Lib.hid hz
                           clear hz
                           replace hown := hown.keep0 c6
                           replace hsv := hsv.keep0 c6
                           replace hckc := hckc.keep0 c6
                           replace b1 := b1.keep0 c6
                           replace b6 := b6.keep0 c6
                           replace hp := hp.keep0 c6
                           replace hch := hch.then c6
                           clear c6)
                        | (go_at_call 32
                           refine (HLC.out z _ HZV.out).mono ?_
                           rintro e w8 ⟨rfl, c6⟩
                           replace hown := hown.keep0 c6
                           replace hsv := hsv.keep0 c6
                           replace hckc := hckc.keep0 c6
                           replace b1 := b1.keep0 c6
                           replace b6 := b6.keep0 c6
                           replace hp := hp.keep0 c6
                           replace hch := hch.then c6
                           clear c6)
                        | fail)
                  all_goals
                    go_wp2_with fail
                    go_roundw
                    case rel => exact ⟨c + 1, s2, mb, by omega, by go_num, rfl, HR2.out, HLL2.out, HMT2.out, HNX.out, hown, HBK.out, b1, b6, hp, hch⟩
                    case measure => simp [intOf]; omega
                | true =>
                  have HNI := Lib.hid (HADD.out hca HCT.out rfl (of_decide_eq_true HLT.out))
                  clear HADD HFF hca
                  have c8 : Chg [] wr wr.drew := (Chg.refl _ _).drew
                  replace hown := hown.keep0 c8
                  replace hsv := hsv.keep0 c8
                  replace hckc := hckc.keep0 c8
                  replace b1 := b1.keep0 c8
                  replace b6 := b6.keep0 c8
                  replace hp := hp.keep0 c8
                  replace hch := hch.then c8
                  clear c8
                  go_region_held3 (fun w' => w'.cell? ⟨g0, 0, none⟩ = some (.slice (some ⟨gk, ok, none⟩) n cK) ∧ w'.cell? ⟨g0, 1, none⟩ = some (.slice AS m cS) ∧ w'.cell? ⟨g0, 2, none⟩ = some (.slice AT tn cT) ∧ w'.cell? ⟨g0 + 1, 0, none⟩ = some (.bool false) ∧ w'.cell? ⟨g0 + 1, 1, none⟩ = some (.string ⟨#[1]⟩) ∧ w'.cell? ⟨g0 + 1, 2, none⟩ = some (.string ⟨#[2]⟩) ∧ w'.cell? ⟨gk, ok + c, none⟩ = some (.int .i64 2)) (first | exact ⟨b1.c0, b1.c1, b1.c2, b6.c0, b6.c1, b6.c2, hckc.c0⟩) (first
                        | (go_at_call 41
                           refine (HHC.out _ hsv).mono ?_
                           rintro e w6 ⟨rfl, rfl⟩)
                        | (go_at_call 34
                           refine (HVC.out _ hp hsv).mono ?_
                           rintro e w7 ⟨z, rfl, hz, c6⟩
                           have HZV := Lib.hid hz
                           clear hz
                           replace hown := hown.keep0 c6
                           replace hsv := hsv.keep0 c6
                           replace hckc := hckc.keep0 c6
                           replace b1 := b1.keep0 c6
                           replace b6 := b6.keep0 c6
                           replace hp := hp.keep0 c6
                           replace hch := hch.then c6
                           clear c6)
                        | (go_at_call 32
                           refine (HLC.out z _ HZV.out).mono ?_
                           rintro e w8 ⟨rfl, c6⟩
                           replace hown := hown.keep0 c6
                           replace hsv := hsv.keep0 c6
                           replace hckc := hckc.keep0 c6
                           replace b1 := b1.keep0 c6
                           replace b6 := b6.keep0 c6
                           replace hp := hp.keep0 c6
                           replace hch := hch.then c6
                           clear c6)
                        | fail)
                  all_goals
                    have c4 : Chg [] w8 (w8.alloc (.cells #[.int .i64 (c : Int)] 3)) := (Chg.refl _ _).alloc _
                    have hws := hch.size
                    go_wp2_with (at_builtin; refine wpList_appendZn _ rfl (.tmp 46) (.tmp 48) rfl _ (zl s2) rfl (hown.keep0 c4) _ 1 ⟨(c : Int)⟩ rfl (sZn_new _ ⟨(c : Int)⟩) (by rw [zl_len, HLN2.out]; have := HL2.out; omega) ?_)
                    intro v5 w5 own5 cv5 hv5
                    obtain ⟨A5, l5, cp5, rfl⟩ : ∃ A l c, v5 = .slice A l c := by obtain ⟨A, c, h, _⟩ := own5.rds; exact ⟨A, _, c, h⟩
                    have HB5 : Hid (∀ x ∈ (Value.slice A5 l5 cp5).ownBlock.toList, g0 + 1 < x) := Lib.hid fun x hx => by
                      rcases hv5 with h5 | h5
                      · rw [h5] at hx; exact HBK.out x hx
                      · rw [h5] at hx; simp at hx; have := b6.lt; omega
                    have c7 : Chg (Value.slice A2 l2 cp2).ownBlock.toList w8 w5 := (c4.mono (fun x hx => by cases hx)).trans cv5 (fun x hx => .inl hx)
                    have b15 := b1.keep c7 (fun hm => by have := HBK.out _ hm; omega)
                    have b65 := b6.keep c7 (fun hm => by have := HBK.out _ hm; omega)
                    have hp5 := hp.keepL HLOW.out c7 (fun y hy => by have := HBK.out y hy; omega)
                    have hch5 := hch.trans c7 (fun y hy => .inr (by have := HBK.out y hy; omega))
                    have HO5 := Lib.hid (by rw [← zl_snoc] at own5; exact own5)
                    have HLL2 : Hid (l ≤ (s2 ++ [c]).length) := Lib.hid (by rw [List.length_append, HLN2.out]; have := HLL.out; omega)
                    have HMT2 : Hid (true = true → l < (s2 ++ [c]).length) := Lib.hid fun _ => by rw [List.length_append, HLN2.out]; have := HLL.out; simp; omega
                    clear own5 cv5 hv5 c7 c4 hown hsv b1 b6 hp hch hws
                    go_wp2_with fail
                    go_roundw
                    case rel => exact ⟨c + 1, s2 ++ [c], true, by omega, by go_num, rfl, HNI.out, HLL2.out, HMT2.out, (fun h => by cases h), HO5.out, HB5.out, b15, b65, hp5, hch5⟩
                    case measure => simp [intOf]; omega
            · have d2 : (kd == 2) = false := by simp [hk2]
              have HNX : Hid (mb = false → ∀ d, d < c + 1 → FF P a (memB s2) d = true → d ∈ s2) := Lib.hid fun h d hd hf => by
                by_cases e : d = c
                · subst e
                  have h1 := (HFF.out.1 hf).2.1
                  rw [HCPC.out] at h1
                  exact absurd (of_decide_eq_true h1) hk2
                · exact HCL.out h d (by omega) hf
              clear HADD HFF hca
              have HLL2 : Hid (l ≤ s2.length) := Lib.hid (by rw [HLN2.out]; exact HLL.out)
              have HMT2 : Hid (mb = true → l < s2.length) := Lib.hid (by rw [HLN2.out]; exact HMT.out)
              have b1c0 := b1.c0
              have hk0 : wr.cell? ⟨gk, ok + c, none⟩ = some (.int .i64 kd) := hckc.c0
              go_quiet (fail)
              have c8 : Chg [] wr (wr.drewN nq) := (Chg.refl _ _).drewN _
              replace hown := hown.keep0 c8
              replace b1 := b1.keep0 c8
              replace b6 := b6.keep0 c8
              replace hp := hp.keep0 c8
              replace hch := hch.then c8
              clear c8 b1c0 hk0
              all_goals
                go_wp2_with fail
                go_roundw
                case rel => exact ⟨c + 1, s2, mb, by omega, by go_num, rfl, HR2.out, HLL2.out, HMT2.out, HNX.out, hown, HBK.out, b1, b6, hp, hch⟩
                case measure => simp [intOf]; omega
        · obtain rfl : n = c := by omega
          have b1c0 := b1.c0
          go_wp2_with fail
          go_roundw
          case rel => exact ⟨s2, mb, rfl, HR2.out, hown, HBK.out, HCL.out, b1, b6, hp, hch⟩
          case measure =>
            have h1 := HMT.out
            have h2 := HL2.out
            have h3 := HLL.out
            cases mb
            · simp [bN, lenV]; omega
            · have := h1 rfl
              simp [bN, lenV]; omega
end Go.Proofs.Ytgdpcpbmjgaliaa
