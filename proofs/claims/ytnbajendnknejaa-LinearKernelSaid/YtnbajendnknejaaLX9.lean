/-
  kernelVector.
-/
import Derived.Test.YtnbajendnknejaaLX8
import Derived.Test.YtnbajendnknejaaGP
namespace Go.Proofs.Ytnbajendnknejaa
open Go.RowKit Nd
/-- The vector of the kernel at column c after i pivots. -/
def kvF (F : Nat → Nat → Rat) (pv : List Nat) (c : Nat) : Nat → Nat → Rat
  | 0 => fun j => if j = c then 1 else 0
  | i + 1 => fun j => if j = pv.getD i 0 then -(F i c) else kvF F pv c i j
theorem Row1.set {xs : List Q3} {p : Nat → Rat} {m k l : Nat} {z : Q3} {q : Rat} (h : Row1 xs p m k) (hl : l < m) (hz : Val z q k) : Row1 (xs.set l z) (fun j => if j = l then q else p j) m k := by
  have hlx : l < xs.length := by rw [h.len]; exact hl
  refine ⟨by rw [List.length_set]; exact h.len, fun j hj => ?_⟩
  rw [getD_setM xs q0 z hlx]
  by_cases he : j = l
  · simp only [he, if_true]; exact hz
  · simp only [he, if_false]; exact h.val j hj
theorem zeros_row (m : Nat) {k : Nat} (hk : 1 ≤ k) : Row1 (List.replicate m q0) (fun _ => 0) m k :=
  ⟨by simp, fun j hj => by simp only [List.getD_eq_getElem?_getD, List.getElem?_replicate, if_pos hj, Option.getD_some]; exact Val_zero.mono hk⟩

set_option maxRecDepth 20000 in
set_option maxHeartbeats 4000000 in
theorem kernelVector_any (M : List (List Q3)) (F : Nat → Nat → Rat) (pv : List Nat) (n m K c gf gp cp : Nat) (w : World) (hv : Vals M F n m K) (hn0 : 0 < n) (hn : n ≤ 1000000) (hm : m ≤ 1000000) (hc : c < m) (hp : pv.length ≤ n) (hpm : ∀ t, t < pv.length → pv.getD t 0 < m) (hK : K + 8 ≤ 34359738367) (hx : Mtx w (some ⟨gf, 0, none⟩) M) (hr : Row 3 .i64 w gp cp pv) :
    Calls Try.prog 71 #[.slice (some ⟨gf, 0, none⟩) n n, .slice (some ⟨gp, 0, none⟩) pv.length cp, .int .i64 c] w fun e w' => ∃ g zs, e = .returned (.slice (some ⟨g, 0, none⟩) m m) ∧ w.heap.size ≤ g ∧ Row1 zs (kvF F pv c pv.length) m (K + 8) ∧ Nums w' g m zs ∧ Chg [] w w' := by
  have HX := Lib.hid hx
  have HR := Lib.hid hr
  have HV := Lib.hid hv
  have HPM := Lib.hid hpm
  have hL := hv.len
  obtain ⟨B0, c0, d0, _, _, _⟩ := hx.at_ (i := 0) (by omega)
  rw [hv.row 0 hn0] at d0
  try rw [Nat.zero_add] at d0
  have hch : Chg [] w w := Chg.refl _ _
  have hgf := (hx.form (by omega))
  obtain ⟨r0, HR0⟩ := name_it pv.length
  rw [HR0.out] at hp ⊢
  have hn1 : (0 : Int) < (n : Int) := by omega
  clear hx hr hv hpm
  obtain ⟨gf2, of2, hge, hgl⟩ := hgf
  simp only [Option.some.injEq, Addr.mk.injEq, and_true] at hge
  obtain ⟨rfl, -⟩ := hge
  go_enter Try.func71, Try.ntmps71
  go_wp2_with (at_make; refine wpList_make3 _ rfl (.tmp 13) (.tmp 13) rfl _ _ m rfl rfl rfl rfl hm ?_)
  intro w1 hz c1
  obtain ⟨g, HG⟩ := name_it w.heap.size
  rw [HG.out] at hz hgl ⊢
  have hgw : w.heap.size ≤ g := by rw [← HG.out]; exact Nat.le_refl _
  replace hch := hch.then c1
  clear c1 d0
  have i3 : (0 : Int) ≤ (c : Int) := by omega
  have i4 : (c : Int) < (m : Int) := by omega
  have ZR := Lib.hid (zeros_row m (k := K + 8) (by omega))
  obtain ⟨z0, HZ0⟩ := name_it (List.replicate m q0)
  rw [HZ0.out] at hz ZR
  have hz0l := ZR.out.len
  go_wp2_with fail
  refine (IntV 1 _ (by omega) (by omega)).mono ?_
  rintro e w2 ⟨z1, rfl, hz1, c1⟩
  replace hz := hz.keep c1 (by simp)
  replace hch := hch.then c1
  clear c1
  obtain ⟨s0, s1, s2⟩ := hz.rds.zero_at (j := c) (by omega)
  have s3 := hz.frozen (c * 3)
  have s4 := hz.frozen (c * 3 + 1)
  have s5 := hz.frozen (c * 3 + 2)
  go_wp2_with fail
  have R0 : Row1 (z0.set c z1) (kvF F pv c 0) m (K + 8) := ZR.out.set hc (by have := hz1.mono (show 8 ≤ K + 8 by omega); simpa using this)
  replace hz := hz.store (i := c) (by omega) z1
  replace hch := hch.store3o (g := g) (i := c * 3) (j := c * 3 + 1) (k := c * 3 + 2) (.inr hgw) (.bool z1.neg) (.string z1.num) (.string z1.den)
  clear s0 s1 s2 s3 s4 s5 hz1
  go_loopw [21] (fun iv wr => ∃ (i : Nat) (zs : List Q3), i ≤ r0 ∧ iv = .int .i64 i ∧ Row1 zs (kvF F pv c i) m (K + 8) ∧ Nums wr g m zs ∧ Chg [] w wr) (fun iv _ => r0 - (intOf iv).toNat)
  case atStart => exact ⟨0, _, Nat.zero_le _, rfl, R0, hz, hch⟩
  case round =>
    clear hz hch R0
    obtain ⟨i, zs, hi, rfl, hR, hz, hch⟩ := hrel
    have RR := Lib.hid hR
    have hzl := hR.len
    clear hR
    by_cases hlt : i < r0
    · have hpl : i < pv.length := by rw [HR0.out]; exact hlt
      have q0c := (HR.out.keep hch (by simp)).cell i hpl
      have hpm := HPM.out i hpl
      obtain ⟨pc, HPC⟩ := name_it (pv.getD i 0)
      rw [HPC.out] at q0c hpm
      obtain ⟨Br, cr, d0, _, _, hB⟩ := (HX.out.keep0 hch).at_ (i := i) (by omega)
      try rw [Nat.zero_add] at d0
      have R1 := Lib.hid (HV.out.at_ (i := i) (by omega))
      obtain ⟨y, HY⟩ := name_it (M.getD i [])
      rw [HY.out] at d0 hB R1
      have hyl := R1.out.len
      rw [hyl] at d0
      obtain ⟨g2, o2, rfl, _⟩ := hB.form (by omega)
      have el := hB.el (j := c) (by omega)
      have vx := R1.out.val c hc
      obtain ⟨x, HX2⟩ := name_it (y.getD c q0)
      rw [HX2.out] at el vx
      obtain ⟨q, HQ⟩ := name_it (F i c)
      rw [HQ.out] at vx
      have e0 := el.a
      have e1 := el.b
      have e2 := el.c
      have j1 : (0 : Int) ≤ (i : Int) := by omega
      have j2 : (i : Int) < (r0 : Int) := by omega
      have j3 : (i : Int) < (n : Int) := by omega
      have k1 : (0 : Int) ≤ (pc : Int) := by omega
      have k2 : (pc : Int) < (m : Int) := by omega
      clear el hB hpl
      go_wp2_with fail
      refine (NegateN x q K _ vx.num (by omega)).mono ?_
      rintro e w3 ⟨z, rfl, hzv, c1⟩
      replace hz := hz.keep c1 (by simp)
      replace hch := hch.then c1
      clear c1 e0 e1 e2 q0c d0
      have hR2 : Hid (Row1 (zs.set pc z) (kvF F pv c (i + 1)) m (K + 8)) := by
        show Row1 _ _ _ _
        have := RR.out.set hpm (hzv.mono (show K ≤ K + 8 by omega))
        unfold kvF
        rw [HPC.out, HQ.out]
        exact this
      obtain ⟨s0, s1, s2⟩ := hz.rds.zero_at (j := pc) (by omega)
      have s3 := hz.frozen (pc * 3)
      have s4 := hz.frozen (pc * 3 + 1)
      have s5 := hz.frozen (pc * 3 + 2)
      clear hzv
      go_wp2_with fail
      go_roundw
      case rel => exact ⟨i + 1, zs.set pc z, by omega, by go_num, hR2.out, hz.store (by omega) z, hch.store3o (.inr hgw) _ _ _⟩
      case measure => simp [intOf]; omega
    · obtain rfl : i = r0 := by omega
      go_wp2_with fail
      go_ret
      exact ⟨g, zs, rfl, hgw, RR.out, hz, hch⟩

end Go.Proofs.Ytnbajendnknejaa
