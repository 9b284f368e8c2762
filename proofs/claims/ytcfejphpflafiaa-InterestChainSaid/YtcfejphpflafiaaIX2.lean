/-
  Interest: perUnit.
-/
import Derived.Test.YtcfejphpflafiaaIX1
import Derived.Lib.MinMax
import Derived.Laws.OwnMore
namespace Go.Proofs.Ytcfejphpflafiaa
open Go.RowKit Nd

theorem frac_eq {a b : Int} (ha : 0 ≤ a) (hb : 0 < b) : sq (fsg a b) a.natAbs b.natAbs = (a : Rat) / (b : Rat) := by
  have h1 : fsg a b = false := by unfold fsg; simp; omega
  rw [h1]; unfold sq; rw [if_neg (by simp), Rat.mkRat_eq_div]
  congr 1
  · rw [show ((a.natAbs : Nat) : Int) = a by omega]
  · have : ((b.natAbs : Nat) : Int) = b := by omega
    rw [← Rat.intCast_natCast, this]
theorem bd_fr {a b : Int} (ha : 0 ≤ a) (ha2 : a ≤ 9223372036854775807) (hb : 0 < b) (hb2 : b ≤ 9223372036854775807) : Bd 8 ((a : Rat) / (b : Rat)) := by
  rw [← frac_eq ha hb]; exact Bd_sq (by omega) (by omega) (by omega)
theorem Own3.new (w : World) : Own3 (w.alloc (.cells #[] 29)) (.slice (some ⟨w.heap.size, 0, none⟩) 0 0) [] := by
  have := World.ownsRow_lit (base := 0) (e := 29) (size := 3) w #[] 0 (Nat.zero_le _) (by simp [maxLen]) (by simp)
  exact this
theorem Sum_list (zs : List Q3) (A : Option Addr) (cap k : Nat) (w : World) (hf : ∀ x ∈ zs, fits x k) (hk : 1 ≤ k) (hc : zs.length ≤ cap) (hcm : cap ≤ 9223372036854775807) (hb : zs.length * (k + 2) ≤ 34359738367) (hx : Rds w A zs) :
    Calls Try.prog 77 #[.slice A zs.length cap] w fun e w' => ∃ z, e = .returned (.agg #[.bool z.neg, .string z.num, .string z.den]) ∧ Val z (sumQ zs) (zs.length * (k + 2) + 1) ∧ Chg [] w w' := by
  by_cases h0 : zs.length = 0
  · have hz : zs = [] := List.eq_nil_of_length_eq_zero h0
    subst hz
    exact (Sum_nil A cap w).mono fun _ _ ⟨z, he, hv, hc⟩ => ⟨z, he, hv.mono (by omega), hc⟩
  · exact (Sum_upto zs.length zs.length (by omega) (Nat.le_refl _) zs A cap k w rfl hf hk hc hcm hb hx).mono fun _ _ ⟨z, he, hv, hc⟩ => ⟨z, he, hv.mono (by omega), hc⟩
theorem pu_drop {f t : Int} {l : List St} {i : Nat} (h : i < l.length) : pu f t ((slQ l).drop i) = ratOf (l.getD i s0).rt * ((dys f t (l.getD i s0).fr ((slQ l).drop (i + 1)) : Int) : Rat) + pu f t ((slQ l).drop (i + 1)) := by
  rw [slQ_drop h]; rfl
theorem rds_one (w : World) (z : Q3) : Rds (w.alloc (.cells #[.bool z.neg, .string z.num, .string z.den] 29)) (some ⟨w.heap.size, 0, none⟩) [z] := by
  have b := Blk3.alloc w (.bool z.neg) (.string z.num) (.string z.den) 29
  intro _
  refine ⟨_, 0, rfl, b.lt, fun j hj => ?_⟩
  obtain rfl : j = 0 := by simp at hj; omega
  exact ⟨b.c0, b.c1, b.c2⟩
theorem sumQ_one (zs : List Q3) (z : Q3) : sumQ (zs ++ [z]) = sumQ zs + ratOf z := by rw [sumQ_append]; simp only [sumQ]; grind
/-- The bound of the interest on 1. -/
def KP (k : Nat) : Nat := 64 * (k + 10) + 1

set_option maxRecDepth 20000 in
set_option maxHeartbeats 4000000 in
theorem perUnit_any (l : List St) (f t b : Int) (n k : Nat) (A : Option Addr) (cap : Nat) (w : World) (hn : l.length = n) (hm : n ≤ 64) (hf : Fits l k) (hfr : ∀ s ∈ l, 0 ≤ s.fr ∧ s.fr ≤ 1048576) (hf0 : 0 ≤ f) (hft : f ≤ t) (htd : t ≤ 1048576) (hb1 : 1 ≤ b) (hb2 : b ≤ 1000) (hx : Sds w A l) :
    Calls Try.prog 51 #[.slice A n cap, .int .i64 f, .int .i64 t, .int .i64 b] w fun e w' => ∃ z, e = .returned (.agg #[.bool z.neg, .string z.num, .string z.den]) ∧ Val z (pu f t (slQ l) / (b : Rat)) (KP k) ∧ Chg [] w w' := by
  have HLOW : Hid (0 < l.length → ∃ g o, A = some ⟨g, o, none⟩ ∧ g < w.heap.size) := Lib.hid hx.form
  have b8 := (Blk3.alloc w (.bool false) (.string ⟨#[]⟩) (.string ⟨#[]⟩) 29).keep ((Chg.refl [] _).alloc (.cells #[] 29)) (by simp)
  have hch : Chg [] w ((w.alloc (.cells #[.bool false, .string ⟨#[]⟩, .string ⟨#[]⟩] 29)).alloc (.cells #[] 29)) := ((Chg.refl _ _).alloc _).alloc _
  have hown := Own3.new (w.alloc (.cells #[.bool false, .string ⟨#[]⟩, .string ⟨#[]⟩] 29))
  rw [World.size_alloc] at hown
  replace hx := hx.keep0 hch
  obtain ⟨r, HR⟩ := name_it (pu f t (slQ l) / (b : Rat))
  have HQ0 : Hid (sumQ [] + pu f t ((slQ l).drop 0) / (b : Rat) = r) := Lib.hid (by rw [List.drop_zero, HR.out]; simp only [sumQ]; grind)
  rw [HR.out]
  have HN := Lib.hid hn
  have HF := Lib.hid hf
  have HFR := Lib.hid hfr
  have HP := Lib.hid hft
  clear hn hf HR hfr hft
  go_enter Try.func51, Try.ntmps51
  go_wp2_with fail
  go_loopw [9, 19] (fun pv iv wr => ∃ (i : Nat) (zs : List Q3), i ≤ n ∧ iv = .int .i64 i ∧ Own3 wr pv zs ∧ zs.length ≤ i ∧ (∀ z ∈ zs, fits z (k + 8)) ∧ sumQ zs + pu f t ((slQ l).drop i) / (b : Rat) = r ∧ (∀ x ∈ pv.ownBlock.toList, w.heap.size < x) ∧ Blk3 wr w.heap.size (.bool false) (.string ⟨#[]⟩) (.string ⟨#[]⟩) ∧ Sds wr A l ∧ Chg [] w wr) (fun _ iv _ => n - (intOf iv).toNat)
  case atStart => exact ⟨0, [], Nat.zero_le _, rfl, hown, Nat.le_refl _, (fun z h => by cases h), HQ0.out, (by simp [Value.ownBlock]), b8, hx, hch⟩
  case round =>
    clear hx hch b8 hown HQ0
    obtain ⟨i, zs, hi, rfl, hown, hzl, hzf, hq, hpb, b8, hx, hch⟩ := hrel
    have HZL := Lib.hid hzl
    have HZF := Lib.hid hzf
    have HQ := Lib.hid hq
    have HPB := Lib.hid hpb
    have HOWN := Lib.hid hown
    clear hzl hzf hq hpb hown
    by_cases hlt : i < n
    · obtain ⟨g, o, rfl, hgl⟩ := HLOW.out (by rw [HN.out]; omega)
      have hc := hx.at_ (j := i) (by rw [HN.out]; exact hlt)
      have hnum := Lib.hid (HF.out.num (j := i) (by rw [HN.out]; exact hlt))
      have hstep := Lib.hid (pu_drop (f := f) (t := t) (l := l) (i := i) (by rw [HN.out]; exact hlt))
      have hsr := HFR.out _ (mem_getS (l := l) (j := i) (by rw [HN.out]; exact hlt))
      obtain ⟨s, HS⟩ := name_it (l.getD i s0)
      rw [HS.out] at hc hnum hstep hsr
      have hca := hc.a
      have hcb := hc.b
      have hcc := hc.c
      have hcd := hc.d
      have c4 : Chg [] wr (wr.alloc (.cells #[.int .i64 s.fr, .bool s.rt.neg, .string s.rt.num, .string s.rt.den] 49)) := (Chg.refl _ _).alloc _
      have b4 := Blk4.alloc wr (.int .i64 s.fr) (.bool s.rt.neg) (.string s.rt.num) (.string s.rt.den) 49
      replace b8 := b8.keep c4 (by simp)
      have HX1 := Lib.hid (hx.keep0 c4)
      have HOWN1 := Lib.hid (HOWN.out.keep0 c4)
      replace hch := hch.then c4
      clear hx hc c4
      obtain ⟨q, HQR⟩ := name_it (ratOf s.rt)
      rw [HQR.out] at hnum hstep
      by_cases hlast : i + 1 < n
      · have hp := HX1.out.at_ (j := i + 1) (by rw [HN.out]; exact hlast)
        have hsr2 := HFR.out _ (mem_getS (l := l) (j := i + 1) (by rw [HN.out]; exact hlast))
        have hnx : nx t ((slQ l).drop (i + 1)) = min t (l.getD (i + 1) s0).fr := by rw [slQ_drop (by rw [HN.out]; exact hlast)]; rfl
        obtain ⟨p, HP2⟩ := name_it (l.getD (i + 1) s0)
        rw [HP2.out] at hp hnx hsr2
        have hpa := hp.a
        have ec : ((i + 1 : Nat) : Int) = (i : Int) + 1 := by omega
        have d2 : decide ((i : Int) + 1 < (n : Int)) = true := decide_eq_true (by omega)
        have hidx : 0 ≤ (i : Int) + 1 := by omega
        have hidx2 : ((i : Int) + 1).toNat = i + 1 := by omega
        have HNX := Lib.hid hnx
        clear hnx hp
        obtain ⟨D, HD⟩ := name_it (min t p.fr - max f s.fr)
        have hw64 : wrap64 (min t p.fr - max f s.fr) = D := by have := HD.out; have := HP.out; unfold wrap64; omega
        have hD1 : D ≤ 1048576 := by have := HD.out; omega
        have HT : Hid (pu f t ((slQ l).drop i) = q * ((max 0 D : Int) : Rat) + pu f t ((slQ l).drop (i + 1))) := Lib.hid (by rw [hstep.out]; unfold dys; rw [HNX.out, HD.out])
        clear hstep HNX
        cases hD : decide (0 < D) with
        | true =>
          have hD0 : 0 < D := of_decide_eq_true hD
          have HMX : Hid (max 0 D = D) := Lib.hid (by omega)
          clear HD
          go_wp2_with fail
          refine (Fraction_any D b _ (by omega) (by omega) (by omega) (by omega) (by omega)).mono ?_
          rintro e w1 ⟨y, rfl, hy, c1⟩
          rw [frac_eq (by omega) (by omega)] at hy
          have VY : Hid (Val y ((D : Rat) / (b : Rat)) 8) := Lib.hid ⟨hy, bd_fr (by omega) (by omega) (by omega) (by omega)⟩
          replace b4 := b4.keep c1 (by simp)
          replace b8 := b8.keep c1 (by simp)
          replace hch := hch.then c1
          have HX2 := Lib.hid (HX1.out.keep0 c1)
          have HOWN2 := Lib.hid (HOWN1.out.keep0 c1)
          have b14 := Blk3.alloc w1 (.bool y.neg) (.string y.num) (.string y.den) 29
          have c5 : Chg [] w1 (w1.alloc (.cells #[.bool y.neg, .string y.num, .string y.den] 29)) := (Chg.refl _ _).alloc _
          replace b4 := b4.keep c5 (by simp)
          replace b8 := b8.keep c5 (by simp)
          replace hch := hch.then c5
          have HX3 := Lib.hid (HX2.out.keep0 c5)
          have HOWN3 := Lib.hid (HOWN2.out.keep0 c5)
          clear c1 c5 hy hw64 hca hcb hcc hcd
          have k1 := b4.c1
          have k2 := b4.c2
          have k3 := b4.c3
          have b14c0 := b14.c0
          have b14c1 := b14.c1
          have b14c2 := b14.c2
          have b14f0 := b14.f0
          have b14f1 := b14.f1
          have b14f2 := b14.f2
          have b14l := b14.lt
          go_wp2_with fail
          refine (MultiplyN s.rt y q ((D : Rat) / (b : Rat)) k 8 _ hnum.out VY.out.num (by have := HF.out.le; omega)).mono ?_
          rintro e w2 ⟨v, rfl, hv, c1⟩
          have HV := Lib.hid hv
          replace b8 := b8.keep c1 (by simp)
          replace hch := hch.then c1
          have HX4 := Lib.hid (HX3.out.keep0 c1)
          have HOWN4 := Lib.hid (HOWN3.out.keep0 c1)
          have hsz2 := c1.size
          clear c1 hv k1 k2 k3
          clear b14c0 b14c1 b14c2 b14f0 b14f1 b14f2 b14l
          clear b14
          go_wp2_with (at_builtin; refine wpList_append3 _ rfl (.tmp 52) (.tmp 57) rfl _ zs rfl (HOWN4.out.keep0 ((Chg.refl [] _).alloc _)) _ 1 1 [v] rfl rfl (rds_one _ v) (by have := HZL.out; omega) ?_)
          intro v5 w5 own5 cv5 hv5
          have HO5 := Lib.hid own5
          have HPB5 : Hid (∀ x ∈ v5.ownBlock.toList, w.heap.size < x) := Lib.hid fun x hx => by
            rcases hv5 with h5 | h5
            · rw [h5] at hx; exact HPB.out x hx
            · rw [h5] at hx; simp at hx; have := b8.lt; omega
          have c6 : Chg u9.ownBlock.toList w2 w5 := (((Chg.refl [] _).alloc _).mono (fun x hx => by cases hx)).trans cv5 (fun x hx => .inl hx)
          have b8n := b8.keep c6 (fun hm => by have := HPB.out _ hm; omega)
          have HX5 := Lib.hid (HX4.out.keep c6 (fun a ha hm => by cases ha; have := HPB.out _ hm; dsimp only at this; omega))
          have hch5 : Chg [] w w5 := hch.trans c6 (fun x hx => .inr (Nat.le_of_lt (HPB.out x hx)))
          have HZL5 : Hid ((zs ++ [v]).length ≤ i + 1) := Lib.hid (by rw [List.length_append]; have := HZL.out; simp; omega)
          have HZF5 : Hid (∀ z ∈ zs ++ [v], fits z (k + 8)) := Lib.hid fun z hz => by
            rcases List.mem_append.1 hz with h | h
            · exact HZF.out z h
            · rw [List.mem_singleton.1 h]; exact HV.out.num.fit
          have HQ5 : Hid (sumQ (zs ++ [v]) + pu f t ((slQ l).drop (i + 1)) / (b : Rat) = r) := Lib.hid (by
            have h1 := HQ.out
            rw [HT.out, HMX.out] at h1
            rw [sumQ_one, HV.out.num.rat, ← h1]
            grind)
          clear own5 cv5 hv5 b8 hch c6
          go_wp2_with fail
          go_roundw
          case rel => exact ⟨i + 1, zs ++ [v], by omega, by go_num, HO5.out, HZL5.out, HZF5.out, HQ5.out, HPB5.out, b8n, HX5.out, hch5⟩
          case measure => simp [intOf]; omega
        | false =>
          have HQ5 : Hid (sumQ zs + pu f t ((slQ l).drop (i + 1)) / (b : Rat) = r) := Lib.hid (by
            have h1 := HQ.out
            have h2 : max 0 D = 0 := by have := of_decide_eq_false hD; omega
            rw [HT.out, h2, Rat.intCast_zero] at h1
            rw [← h1]; grind)
          have HZL5 : Hid (zs.length ≤ i + 1) := Lib.hid (by have := HZL.out; omega)
          clear HD
          go_wp2_with fail
          go_roundw
          case rel => exact ⟨i + 1, zs, by omega, by go_num, HOWN1.out, HZL5.out, HZF.out, HQ5.out, HPB.out, b8, HX1.out, hch⟩
          case measure => simp [intOf]; omega
      · have HNX : Hid (nx t ((slQ l).drop (i + 1)) = t) := Lib.hid (by rw [slQ_end (by rw [HN.out]; omega)]; rfl)
        have d2 : decide ((i : Int) + 1 < (n : Int)) = false := decide_eq_false (by omega)
        obtain ⟨D, HD⟩ := name_it (t - max f s.fr)
        have hw64 : wrap64 (t - max f s.fr) = D := by have := HD.out; have := HP.out; unfold wrap64; omega
        have hD1 : D ≤ 1048576 := by have := HD.out; omega
        have HT : Hid (pu f t ((slQ l).drop i) = q * ((max 0 D : Int) : Rat) + pu f t ((slQ l).drop (i + 1))) := Lib.hid (by rw [hstep.out]; unfold dys; rw [HNX.out, HD.out])
        clear hstep HNX
        cases hD : decide (0 < D) with
        | true =>
          have hD0 : 0 < D := of_decide_eq_true hD
          have HMX : Hid (max 0 D = D) := Lib.hid (by omega)
          clear HD
          go_wp2_with fail
          refine (Fraction_any D b _ (by omega) (by omega) (by omega) (by omega) (by omega)).mono ?_
          rintro e w1 ⟨y, rfl, hy, c1⟩
          rw [frac_eq (by omega) (by omega)] at hy
          have VY : Hid (Val y ((D : Rat) / (b : Rat)) 8) := Lib.hid ⟨hy, bd_fr (by omega) (by omega) (by omega) (by omega)⟩
          replace b4 := b4.keep c1 (by simp)
          replace b8 := b8.keep c1 (by simp)
          replace hch := hch.then c1
          have HX2 := Lib.hid (HX1.out.keep0 c1)
          have HOWN2 := Lib.hid (HOWN1.out.keep0 c1)
          have b14 := Blk3.alloc w1 (.bool y.neg) (.string y.num) (.string y.den) 29
          have c5 : Chg [] w1 (w1.alloc (.cells #[.bool y.neg, .string y.num, .string y.den] 29)) := (Chg.refl _ _).alloc _
          replace b4 := b4.keep c5 (by simp)
          replace b8 := b8.keep c5 (by simp)
          replace hch := hch.then c5
          have HX3 := Lib.hid (HX2.out.keep0 c5)
          have HOWN3 := Lib.hid (HOWN2.out.keep0 c5)
          clear c1 c5 hy hw64 hca hcb hcc hcd
          have k1 := b4.c1
          have k2 := b4.c2
          have k3 := b4.c3
          have b14c0 := b14.c0
          have b14c1 := b14.c1
          have b14c2 := b14.c2
          have b14f0 := b14.f0
          have b14f1 := b14.f1
          have b14f2 := b14.f2
          have b14l := b14.lt
          go_wp2_with fail
          refine (MultiplyN s.rt y q ((D : Rat) / (b : Rat)) k 8 _ hnum.out VY.out.num (by have := HF.out.le; omega)).mono ?_
          rintro e w2 ⟨v, rfl, hv, c1⟩
          have HV := Lib.hid hv
          replace b8 := b8.keep c1 (by simp)
          replace hch := hch.then c1
          have HX4 := Lib.hid (HX3.out.keep0 c1)
          have HOWN4 := Lib.hid (HOWN3.out.keep0 c1)
          have hsz2 := c1.size
          clear c1 hv k1 k2 k3
          clear b14c0 b14c1 b14c2 b14f0 b14f1 b14f2 b14l
          clear b14
          go_wp2_with (at_builtin; refine wpList_append3 _ rfl (.tmp 52) (.tmp 57) rfl _ zs rfl (HOWN4.out.keep0 ((Chg.refl [] _).alloc _)) _ 1 1 [v] rfl rfl (rds_one _ v) (by have := HZL.out; omega) ?_)
          intro v5 w5 own5 cv5 hv5
          have HO5 := Lib.hid own5
          have HPB5 : Hid (∀ x ∈ v5.ownBlock.toList, w.heap.size < x) := Lib.hid fun x hx => by
            rcases hv5 with h5 | h5
            · rw [h5] at hx; exact HPB.out x hx
            · rw [h5] at hx; simp at hx; have := b8.lt; omega
          have c6 : Chg u9.ownBlock.toList w2 w5 := (((Chg.refl [] _).alloc _).mono (fun x hx => by cases hx)).trans cv5 (fun x hx => .inl hx)
          have b8n := b8.keep c6 (fun hm => by have := HPB.out _ hm; omega)
          have HX5 := Lib.hid (HX4.out.keep c6 (fun a ha hm => by cases ha; have := HPB.out _ hm; dsimp only at this; omega))
          have hch5 : Chg [] w w5 := hch.trans c6 (fun x hx => .inr (Nat.le_of_lt (HPB.out x hx)))
          have HZL5 : Hid ((zs ++ [v]).length ≤ i + 1) := Lib.hid (by rw [List.length_append]; have := HZL.out; simp; omega)
          have HZF5 : Hid (∀ z ∈ zs ++ [v], fits z (k + 8)) := Lib.hid fun z hz => by
            rcases List.mem_append.1 hz with h | h
            · exact HZF.out z h
            · rw [List.mem_singleton.1 h]; exact HV.out.num.fit
          have HQ5 : Hid (sumQ (zs ++ [v]) + pu f t ((slQ l).drop (i + 1)) / (b : Rat) = r) := Lib.hid (by
            have h1 := HQ.out
            rw [HT.out, HMX.out] at h1
            rw [sumQ_one, HV.out.num.rat, ← h1]
            grind)
          clear own5 cv5 hv5 b8 hch c6
          go_wp2_with fail
          go_roundw
          case rel => exact ⟨i + 1, zs ++ [v], by omega, by go_num, HO5.out, HZL5.out, HZF5.out, HQ5.out, HPB5.out, b8n, HX5.out, hch5⟩
          case measure => simp [intOf]; omega
        | false =>
          have HQ5 : Hid (sumQ zs + pu f t ((slQ l).drop (i + 1)) / (b : Rat) = r) := Lib.hid (by
            have h1 := HQ.out
            have h2 : max 0 D = 0 := by have := of_decide_eq_false hD; omega
            rw [HT.out, h2, Rat.intCast_zero] at h1
            rw [← h1]; grind)
          have HZL5 : Hid (zs.length ≤ i + 1) := Lib.hid (by have := HZL.out; omega)
          clear HD
          go_wp2_with fail
          go_roundw
          case rel => exact ⟨i + 1, zs, by omega, by go_num, HOWN1.out, HZL5.out, HZF.out, HQ5.out, HPB.out, b8, HX1.out, hch⟩
          case measure => simp [intOf]; omega
    · have HR : Hid (sumQ zs = r) := Lib.hid (by
        rw [← HQ.out, slQ_end (by rw [HN.out]; omega)]; simp only [pu]; grind)
      obtain ⟨B, cb, rfl, hc1, hc2, hr⟩ := HOWN.out.rds
      have HRD := Lib.hid hr
      clear hr
      go_wp2_with fail
      refine (Sum_list zs B cb (k + 8) _ HZF.out (by omega) hc1 hc2 (by
        have h1 := HZL.out
        have h2 := HF.out.le
        have : zs.length * (k + 8 + 2) ≤ 64 * 1010 := Nat.mul_le_mul (by omega) (by omega)
        omega) HRD.out).mono ?_
      rintro e w1 ⟨z, rfl, hz, c1⟩
      rw [HR.out] at hz
      have HZ : Hid (Val z r (KP k)) := Lib.hid (hz.mono (by
        have h1 := HZL.out
        have : zs.length * (k + 8 + 2) ≤ 64 * (k + 10) := Nat.mul_le_mul (by omega) (by omega)
        unfold KP; omega))
      replace b8 := b8.keep c1 (by simp)
      replace hch := hch.then c1
      clear hz c1
      have b8c0 := b8.c0
      have b8c1 := b8.c1
      have b8c2 := b8.c2
      have b8f0 := b8.f0
      have b8f1 := b8.f1
      have b8f2 := b8.f2
      have b8l := b8.lt
      go_wp2_with fail
      have S := b8.store (.bool z.neg) (.string z.num) (.string z.den)
      exact bodyPost_ret (v := .agg #[.bool z.neg, .string z.num, .string z.den]) (by simp [results, Try.results51, go_sem, S.c0, S.c1, S.c2]) rfl ⟨z, rfl, HZ.out, hch.store3 (.inr (Nat.le_refl _)) _ _ _⟩
end Go.Proofs.Ytcfejphpflafiaa
