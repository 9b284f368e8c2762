/-
  The reference: Decimal.
-/
import Derived.Test.YtbhcchpkpclghaaGreatDoorV12
import Derived.Test.YtbhcchpkpclghaaGreatDoorGI
import Derived.Test.YtbhcchpkpclghaaGreatDoorGM
namespace Go.Proofs.YtbhcchpkpclghaaGreatDoor
open Go.RowKit Nd
def szOf : Value → Nat
  | .string s => s.size
  | _ => 0
set_option maxRecDepth 20000 in
set_option maxHeartbeats 1000000 in
theorem written_nil (w : World) :
    Calls Tryz.prog 42 #[.slice none 0 0] w fun e w' => ∃ t : ByteArray, e = .returned (.string t) ∧ Dec t.data.toList 0 ∧ Chg [] w w' := by
  go_enter Tryz.func42, Tryz.ntmps42
  go_wp2_with fail
  go_loopw [0, 3] (fun xv bv wr => xv = .slice none 0 0 ∧ bv = .slice none 0 0 ∧ wr = w) (fun _ _ _ => 0)
  case atStart => exact ⟨rfl, rfl, rfl⟩
  case round =>
    obtain ⟨rfl, rfl, rfl⟩ := hrel
    go_wp2_with fail
    go_ret
    exact ⟨_, rfl, ⟨by decide, by decide⟩, Chg.refl _ _⟩
theorem written_sl {v : Value} {L : List Nat} {n : Nat} (w : World) (h : Sl w v L) (dL : dig 4294967296 L) (nL : noz L) (lL : L.length ≤ 68719476736) (hn : lv 4294967296 L = n) :
    Calls Tryz.prog 42 #[v] w fun e w' => ∃ t : ByteArray, e = .returned (.string t) ∧ Dec t.data.toList n ∧ Chg [] w w' := by
  cases h with
  | nil => rw [← hn]; exact written_nil w
  | row g c _ hr => exact written_row g c L w n hr dL nL lL hn
theorem clamp2 (n : Int) : max 0 (min n 20) = (clampP n : Int) := by unfold clampP; omega
theorem dig_ten : dig 4294967296 [10] := by intro x hx; simp at hx; omega

set_option maxRecDepth 20000 in
set_option maxHeartbeats 8000000 in
theorem rDecimalN (x : Q3) (n : Int) (p : Rat) (k : Nat) (w : World) (hx : Num x p k) (hk : k ≤ 1073741824) (_hn1 : -9223372036854775808 ≤ n) (_hn2 : n ≤ 9223372036854775807) :
    Calls Tryz.prog 11 #[.agg #[.bool x.neg, .string x.num, .string x.den], .int .i64 n] w fun e w' => ∃ s : ByteArray, e = .returned (.string s) ∧ s.data.toList = decimalL p (clampP n) ∧ Chg [] w w' := by
  obtain ⟨pl, HPL⟩ := name_it (clampP n)
  have hcl := clamp2 n
  have hpl20 := clampP_le n
  rw [HPL.out] at hcl hpl20 ⊢
  obtain ⟨r, HR⟩ := name_it (decimalL p pl)
  rw [HR.out]
  have b1 := Blk3.alloc w (.bool x.neg) (.string x.num) (.string x.den) 23
  have hch : Chg [] w (w.alloc (.cells #[.bool x.neg, .string x.num, .string x.den] 23)) := (Chg.refl _ _).alloc _
  go_enter Tryz.func11, Tryz.ntmps11
  go_wp2_with fail
  obtain ⟨w0, HWw0⟩ := name_it ((w).alloc (.cells #[.bool x.neg, .string x.num, .string x.den] 23))
  rw [HWw0.out] at b1 hch ⊢
  refine (rFixN x p k _ hx (by omega)).mono ?_
  rintro e w1 ⟨z, rfl, hz, c1⟩
  replace b1 := b1.keep c1 (by simp)
  replace hch := hch.then c1
  clear c1 hx
  have nz := hz.n1
  have dz := hz.n2
  have BA := Lib.hid hz.bd
  have hng := hz.enc.neg
  have vn := Is_val hz.enc.num
  obtain ⟨zn, zN, zD⟩ := z
  simp only at nz dz hng vn ⊢
  have HNG := Lib.hid hng
  have HVN := Lib.hid vn
  have HZ := Lib.hid hz
  clear hng vn hz
  have b1c0 := b1.c0
  have b1c1 := b1.c1
  have b1c2 := b1.c2
  have b1f0 := b1.f0
  have b1f1 := b1.f1
  have b1f2 := b1.f2
  have b1l := b1.lt
  go_wp2_with fail
  clear b1c0 b1f0 b1c1 b1f1 b1c2 b1f2 b1l
  replace b1 := b1.store (.bool zn) (.string zN) (.string zD)
  replace hch := hch.store3 (g := w.heap.size) (.inr (by omega)) (.bool zn) (.string zN) (.string zD)
  clear hcl
  obtain ⟨w2, HWw2⟩ := name_it (((w1.setCell ⟨w.heap.size, 0, none⟩ (.bool zn)).setCell ⟨w.heap.size, 1, none⟩ (.string zN)).setCell ⟨w.heap.size, 2, none⟩ (.string zD))
  rw [HWw2.out] at b1 hch ⊢
  refine (limbs_any zN _ (by omega)).mono ?_
  rintro e w1 ⟨ga, ca, A, rfl, hA, _, dA, nA, vA, lA, c1⟩
  replace b1 := b1.keep c1 (by simp)
  replace hch := hch.then c1
  clear c1
  rw [HVN.out] at vA
  have hla : A.length ≤ k := by omega
  go_wp2_with fail
  go_loopw [5, 6] (fun nv iv wr => ∃ (i g c : Nat) (T : List Nat), i ≤ pl ∧ iv = .int .i64 i ∧ nv = .slice (some ⟨g, 0, none⟩) T.length c ∧ Row 40 .u32 wr g c T ∧ dig 4294967296 T ∧ noz T ∧ lv 4294967296 T = p.num.natAbs * 10 ^ i ∧ T.length ≤ k + i ∧ Blk3 wr w.heap.size (.bool zn) (.string zN) (.string zD) ∧ Chg [] w wr) (fun _ iv _ => pl - (intOf iv).toNat)
  case atStart => exact ⟨0, ga, ca, A, Nat.zero_le _, rfl, rfl, hA, dA, nA, by rw [vA]; simp, by omega, b1, hch⟩
  case round =>
    clear hA dA nA vA lA hla b1 hch
    obtain ⟨i, g, c, T, hi, rfl, rfl, hT, dT, nT, vT, lT, b1, hch⟩ := hrel
    have VT := Lib.hid vT
    clear vT
    by_cases hlt : i < pl
    · go_wp2_with fail
      have hrow : Row 40 .u32 (wr.alloc (.cells #[.int .u32 10] 40)) wr.heap.size 1 [10] := Row.of_alloc wr _ [10] (by simp [vals]) (by simp)
      refine (times_any g c wr.heap.size 1 T [10] _ (hT.keep ((Chg.refl [] _).alloc _) (by simp)) hrow dT dig_ten (by omega) (by simp)).mono ?_
      rintro e w3 ⟨g2, c2, T2, rfl, hT2, dT2, nT2, vT2, lT2, c1⟩
      have c3 := ((Chg.refl [] wr).alloc (.cells #[.int .u32 10] 40)).then c1
      replace b1 := b1.keep c3 (by simp)
      replace hch := hch.then c3
      have VT2 : Hid (lv 4294967296 T2 = p.num.natAbs * 10 ^ (i + 1)) := by show _ = _; rw [vT2, VT.out, Nat.pow_succ, Nat.mul_assoc]; simp
      have lT3 : T2.length ≤ k + (i + 1) := by simp at lT2; omega
      clear hT hrow c1 c3 vT2 lT2
      go_wp2_with fail
      go_roundw
      case rel => exact ⟨i + 1, g2, c2, T2, by omega, by go_num, rfl, hT2, dT2, nT2, VT2.out, lT3, b1, hch⟩
      case measure => simp [intOf]; omega
    · obtain rfl : i = pl := by omega
      clear hlt hi
      have b1c0 := b1.c0
      have b1c1 := b1.c1
      have b1c2 := b1.c2
      have b1f0 := b1.f0
      have b1f1 := b1.f1
      have b1f2 := b1.f2
      have b1l := b1.lt
      go_wp2_with fail
      clear b1c0 b1f0 b1c1 b1f1 b1c2 b1f2 b1l
      refine (rden_any ⟨zn, zN, zD⟩ p _ HZ.out.enc (by show zD.size ≤ _; omega)).mono ?_
      rintro e w3 ⟨gp, cp, P, rfl, hP, dP, nP, vP, lP, c1⟩
      replace b1 := b1.keep c1 (by simp)
      replace hT := hT.keep c1 (by simp)
      replace hch := hch.then c1
      have VP := Lib.hid vP
      clear c1 vP
      have b1c0 := b1.c0
      have b1c1 := b1.c1
      have b1c2 := b1.c2
      have b1f0 := b1.f0
      have b1f1 := b1.f1
      have b1f2 := b1.f2
      have b1l := b1.lt
      go_wp2_with fail
      clear b1c0 b1f0 b1c1 b1f1 b1c2 b1f2 b1l
      refine (rdivideN g c gp cp T P _ hT hP dT dP nT nP (by omega) (by rw [VP.out]; exact p.den_nz)).mono ?_
      rintro e w4 ⟨qv, rv, Q, R, rfl, D, c1⟩
      replace b1 := b1.keep c1 (by simp)
      replace hch := hch.then c1
      have hQ := D.q
      have dQ := D.dQ
      have nQ := D.nQ
      have lQ : Q.length ≤ k + 20 := by have := D.lQ; omega
      have vQ := D.vQ
      rw [VT.out, VP.out] at vQ
      obtain ⟨sc, HSC⟩ := name_it (scaleQ p i)
      replace vQ : lv 4294967296 Q = sc := vQ.trans HSC.out
      clear D c1 hT hP dT dP nT nP lT lP
      have hsb : Hid (sc < 256 ^ (k + 21)) := by
        show _ < _
        rw [← HSC.out]; unfold scaleQ
        have h1 := mul_lt_pow BA.out.1 (lt_pow_le (pow10_lt i) (by omega : i + 1 ≤ 21))
        exact Nat.lt_of_le_of_lt (Nat.div_le_self _ _) h1
      have VQ := Lib.hid vQ
      clear vQ
      have b1c0 := b1.c0
      have b1c1 := b1.c1
      have b1c2 := b1.c2
      have b1f0 := b1.f0
      have b1f1 := b1.f1
      have b1f2 := b1.f2
      have b1l := b1.lt
      go_wp2_with fail
      clear b1c0 b1f0 b1c1 b1f1 b1c2 b1f2 b1l
      refine (written_sl _ hQ dQ nQ (by omega) VQ.out).mono ?_
      rintro e w5 ⟨t, rfl, ht, c1⟩
      replace b1 := b1.keep c1 (by simp)
      replace hch := hch.then c1
      have zt := dec_size ht hsb.out (by omega)
      have HT := Lib.hid (decL_of ht)
      clear ht
      have hql : Hid (∃ lq : Nat, (qv = .slice none 0 0 ∨ ∃ g c, qv = .slice (some ⟨g, 0, none⟩) lq c) ∧ (qv = .slice none 0 0 → sc = 0) ∧ (lq = 0 → sc = 0) ∧ (0 < lq → sc ≠ 0 ∨ qv = .slice none 0 0)) := by
        show ∃ _, _
        have V := VQ.out
        cases hQ with
        | nil => exact ⟨0, .inl rfl, fun _ => by rw [← V]; rfl, fun _ => by rw [← V]; rfl, fun h => absurd h (by omega)⟩
        | row g c _ hr => exact ⟨Q.length, .inr ⟨g, c, rfl⟩, fun h => (by cases h), fun h => (by rw [← V, List.length_eq_zero_iff.1 h]; rfl), fun h => .inl (by rw [← V]; have := lv_pos (B := 4294967296) (by omega) nQ (by rintro rfl; simp at h); omega)⟩
      clear hQ dQ nQ lQ c1
      go_wp2_with fail
      go_loopw [9] (fun sv wr => ∃ (s : ByteArray) (j : Nat), sv = .string s ∧ s.data.toList = List.replicate j 48 ++ t.data.toList ∧ j + t.size ≤ max (i + 1) t.size ∧ wr = w5) (fun sv _ => i + 1 - szOf sv)
      case atStart => exact ⟨t, 0, rfl, by simp, by omega, rfl⟩
      case round =>
        obtain ⟨s, j, rfl, hs, hj, rfl⟩ := hrel
        have hsz : s.size = j + t.size := by rw [← size_len, hs]; simp
        by_cases hm : s.size ≤ i
        · have hs2 : Hid (((⟨#[48]⟩ : ByteArray) ++ s).data.toList = List.replicate (j + 1) 48 ++ t.data.toList) := by
            show _ = _
            rw [app_list, hs]; rfl
          have hz2 : Hid (((⟨#[48]⟩ : ByteArray) ++ s).size = s.size + 1) := by
            show _ = _
            rw [ByteArray.size_append]; have : (⟨#[48]⟩ : ByteArray).size = 1 := rfl; omega
          have hs20 : s.size ≤ 20 := by omega
          have hj2 : j + 1 + t.size ≤ max (i + 1) t.size := by omega
          have HJ2 := Lib.hid hj2
          clear hs hsz hj hj2
          go_wp2_with fail
          go_roundw
          case rel => exact ⟨_, j + 1, rfl, hs2.out, HJ2.out, (by trivial)⟩
          case measure => exact (show i + 1 - ((⟨#[48]⟩ : ByteArray) ++ s).size < i + 1 - s.size by rw [hz2.out]; omega)
        · have hjj : j = i + 1 - t.size := by omega
          obtain ⟨P, HPP⟩ := name_it (padL i t.data.toList)
          have TH : Hid (s.data.toList = P) := by
            show _ = _
            rw [← HPP.out, hs, hjj]; unfold padL; rw [size_len]
          have hszp : i + 1 ≤ s.size := by omega
          have hszb : s.size ≤ 9663676479 := by omega
          have HSZP := Lib.hid hszp
          clear hszp hs hjj hj hsz
          obtain ⟨sz, HSZ⟩ := name_it (decide (sc = 0))
          have hrr : Hid (r = (if (zn && !sz) = true then [45] else []) ++ pointL i P) := by
            show _ = _
            have ng := HNG.out
            rw [← HR.out, ← HPP.out, ← HSZ.out, ng]; unfold decimalL; rw [HSC.out, HT.out]
            by_cases g1 : p.num < 0 <;> by_cases g2 : sc = 0 <;> simp [g1, g2]
          have fin : ∀ T : ByteArray, T.data.toList = pointL i P → (((⟨#[45]⟩ : ByteArray) ++ T).data.toList = r ∨ ¬ (zn && !sz) = true) ∧ (T.data.toList = r ∨ (zn && !sz) = true) := by
            intro T hT
            rw [hrr.out, app_list, hT]
            by_cases g : (zn && !sz) = true
            · exact ⟨.inl (by rw [if_pos g]; try rfl), .inr g⟩
            · exact ⟨.inr g, .inl (by rw [if_neg g]; try rfl)⟩
          have FIN := Lib.hid fin
          clear fin
          obtain ⟨lq, hq, q1, q2, q3⟩ := hql.out
          have Q1 := Lib.hid q1
          have Q2 := Lib.hid q2
          have Q3 := Lib.hid q3
          clear q1 q2 q3 hql
          by_cases hp : 0 < i
          · obtain ⟨pt, HPT⟩ : ∃ pt : Nat, Hid (pt + i = s.size) := ⟨s.size - i, by show _ = _; have := HSZP.out; omega⟩
            have hpt : (s.size : Int) - (i : Int) = (pt : Int) := by have := HPT.out; omega
            have hptl : pt ≤ s.size := by have := HPT.out; omega
            have hres : Hid (((s.extract 0 pt ++ ⟨#[46]⟩) ++ s.extract pt s.size).data.toList = pointL i P) := by
              show _ = _
              rw [app_list, app_list, ext_take, ext_drop, TH.out]
              unfold pointL
              rw [if_pos hp]
              have : P.length - i = pt := by rw [← TH.out, size_len]; have := HPT.out; omega
              rw [this]; simp
            have hl1 := ext_size s 0 pt
            have hl2 := ext_size s pt s.size
            have hpt0 : (0 : Int) ≤ (pt : Int) := by omega
            have hpt1 : (pt : Int) ≤ (s.size : Int) := by omega
            have hub : Hid (((s.extract 0 pt ++ ⟨#[46]⟩) ++ s.extract pt s.size).size ≤ 19327352960) := by
              show _ ≤ _
              rw [ByteArray.size_append, ByteArray.size_append]
              have : (⟨#[46]⟩ : ByteArray).size = 1 := rfl
              omega
            go_wp2_with fail
            go_cut [9] (fun v wx => ∃ U : ByteArray, v = .string U ∧ U.data.toList = pointL i P ∧ U.size ≤ 19327352960 ∧ Blk3 wx w.heap.size (.bool zn) (.string zN) (.string zD) ∧ Chg [] w wx)
            case first =>
              go_quiet (fail)
              go_wp2_with fail
              go_meet
              exact ⟨_, rfl, hres.out, hub.out, b1.keep ((Chg.refl [] _).drewN _) (by simp), hch.drewN _⟩
            case rest =>
              clear b1 hch hres hub
              obtain ⟨T, rfl, hU, zU, b1, hch⟩ := hcut
              have hres := Lib.hid hU
              clear hU hl1 hl2 hpt hptl hpt0 hpt1
              rcases hq with rfl | ⟨g, c, rfl⟩
              · have hs0 : sz = true := by rw [← HSZ.out]; simp [Q1.out rfl]
                subst hs0
                cases zn
                · have b1c0 := b1.c0
                  have b1c1 := b1.c1
                  have b1c2 := b1.c2
                  have b1f0 := b1.f0
                  have b1f1 := b1.f1
                  have b1f2 := b1.f2
                  have b1l := b1.lt
                  go_wp2_with fail
                  go_ret
                  exact ⟨_, rfl, ((FIN.out _ hres.out).2.resolve_right (by simp)), hch⟩
                · have b1c0 := b1.c0
                  have b1c1 := b1.c1
                  have b1c2 := b1.c2
                  have b1f0 := b1.f0
                  have b1f1 := b1.f1
                  have b1f2 := b1.f2
                  have b1l := b1.lt
                  go_wp2_with fail
                  go_ret
                  exact ⟨_, rfl, ((FIN.out _ hres.out).2.resolve_right (by simp)), hch⟩
              · by_cases hl0 : lq = 0
                · have hs0 : sz = true := by rw [← HSZ.out]; simp [Q2.out hl0]
                  subst hs0 hl0
                  cases zn
                  · have b1c0 := b1.c0
                    have b1c1 := b1.c1
                    have b1c2 := b1.c2
                    have b1f0 := b1.f0
                    have b1f1 := b1.f1
                    have b1f2 := b1.f2
                    have b1l := b1.lt
                    go_wp2_with fail
                    go_ret
                    exact ⟨_, rfl, ((FIN.out _ hres.out).2.resolve_right (by simp)), hch⟩
                  · have b1c0 := b1.c0
                    have b1c1 := b1.c1
                    have b1c2 := b1.c2
                    have b1f0 := b1.f0
                    have b1f1 := b1.f1
                    have b1f2 := b1.f2
                    have b1l := b1.lt
                    go_wp2_with fail
                    go_ret
                    exact ⟨_, rfl, ((FIN.out _ hres.out).2.resolve_right (by simp)), hch⟩
                · have hs0 : sz = false := by
                    rw [← HSZ.out]
                    rcases Q3.out (by omega) with h | h
                    · simp [h]
                    · cases h
                  subst hs0
                  have hl1 : 0 < lq := by omega
                  cases zn
                  · have b1c0 := b1.c0
                    have b1c1 := b1.c1
                    have b1c2 := b1.c2
                    have b1f0 := b1.f0
                    have b1f1 := b1.f1
                    have b1f2 := b1.f2
                    have b1l := b1.lt
                    go_wp2_with fail
                    go_ret
                    exact ⟨_, rfl, ((FIN.out _ hres.out).2.resolve_right (by simp)), hch⟩
                  · have b1c0 := b1.c0
                    have b1c1 := b1.c1
                    have b1c2 := b1.c2
                    have b1f0 := b1.f0
                    have b1f1 := b1.f1
                    have b1f2 := b1.f2
                    have b1l := b1.lt
                    go_wp2_with fail
                    go_ret
                    exact ⟨_, rfl, ((FIN.out _ hres.out).1.resolve_right (by simp)), hch⟩
          · have hp0 : i = 0 := by omega
            have hres : Hid (s.data.toList = pointL i P) := by
              show _ = _
              unfold pointL
              rw [if_neg hp, TH.out]
            clear hp0
            rcases hq with rfl | ⟨g, c, rfl⟩
            · have hs0 : sz = true := by rw [← HSZ.out]; simp [Q1.out rfl]
              subst hs0
              cases zn
              · have b1c0 := b1.c0
                have b1c1 := b1.c1
                have b1c2 := b1.c2
                have b1f0 := b1.f0
                have b1f1 := b1.f1
                have b1f2 := b1.f2
                have b1l := b1.lt
                go_wp2_with fail
                go_ret
                exact ⟨_, rfl, ((FIN.out _ hres.out).2.resolve_right (by simp)), hch⟩
              · have b1c0 := b1.c0
                have b1c1 := b1.c1
                have b1c2 := b1.c2
                have b1f0 := b1.f0
                have b1f1 := b1.f1
                have b1f2 := b1.f2
                have b1l := b1.lt
                go_wp2_with fail
                go_ret
                exact ⟨_, rfl, ((FIN.out _ hres.out).2.resolve_right (by simp)), hch⟩
            · by_cases hl0 : lq = 0
              · have hs0 : sz = true := by rw [← HSZ.out]; simp [Q2.out hl0]
                subst hs0 hl0
                cases zn
                · have b1c0 := b1.c0
                  have b1c1 := b1.c1
                  have b1c2 := b1.c2
                  have b1f0 := b1.f0
                  have b1f1 := b1.f1
                  have b1f2 := b1.f2
                  have b1l := b1.lt
                  go_wp2_with fail
                  go_ret
                  exact ⟨_, rfl, ((FIN.out _ hres.out).2.resolve_right (by simp)), hch⟩
                · have b1c0 := b1.c0
                  have b1c1 := b1.c1
                  have b1c2 := b1.c2
                  have b1f0 := b1.f0
                  have b1f1 := b1.f1
                  have b1f2 := b1.f2
                  have b1l := b1.lt
                  go_wp2_with fail
                  go_ret
                  exact ⟨_, rfl, ((FIN.out _ hres.out).2.resolve_right (by simp)), hch⟩
              · have hs0 : sz = false := by
                  rw [← HSZ.out]
                  rcases Q3.out (by omega) with h | h
                  · simp [h]
                  · cases h
                subst hs0
                have hl1 : 0 < lq := by omega
                cases zn
                · have b1c0 := b1.c0
                  have b1c1 := b1.c1
                  have b1c2 := b1.c2
                  have b1f0 := b1.f0
                  have b1f1 := b1.f1
                  have b1f2 := b1.f2
                  have b1l := b1.lt
                  go_wp2_with fail
                  go_ret
                  exact ⟨_, rfl, ((FIN.out _ hres.out).2.resolve_right (by simp)), hch⟩
                · have b1c0 := b1.c0
                  have b1c1 := b1.c1
                  have b1c2 := b1.c2
                  have b1f0 := b1.f0
                  have b1f1 := b1.f1
                  have b1f2 := b1.f2
                  have b1l := b1.lt
                  go_wp2_with fail
                  go_ret
                  exact ⟨_, rfl, ((FIN.out _ hres.out).1.resolve_right (by simp)), hch⟩

end Go.Proofs.YtbhcchpkpclghaaGreatDoor
