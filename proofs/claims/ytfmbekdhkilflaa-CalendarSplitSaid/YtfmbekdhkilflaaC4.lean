/-
  later, Add, Next, Count, IsBusiness.
-/
import Derived.Test.YtfmbekdhkilflaaC3
namespace Go.Proofs.Ytfmbekdhkilflaa
open Go.RowKit Go.Sort

/-- What later returns. -/
def LaterZ (zs : List Int) (a : Int) (m : Nat) (d : Int) : Prop := 0 ≤ d ∧ d ≤ 16000000 ∧ Nth zs a m (if d ≤ 1048576 then some d else none)
theorem laterZ_mk {zs : List Int} {a : Int} {m j : Nat} (ha : 0 ≤ a) (ha2 : a ≤ 1048577) (hm : m ≤ 1048576) (hl : zs.length ≤ 1000) (h : Lat zs a (num a + m) j) (hs : Stop zs a (num a + m) j) : LaterZ zs a m (numd (num a + m + j)) := by
  have h1 := num_nonneg ha
  have h2 := num_le ha
  have h3 := h.le
  have h4 := clo_len zs a 1048577
  have h5 := numd_bd (k := num a + m + j) (by omega)
  exact ⟨by omega, by omega, later_nth zs a m j ha ha2 h hs⟩
theorem Lat.zero (zs : List Int) (a K : Int) : Lat zs a K 0 := ⟨Nat.zero_le _, fun i hi => absurd hi (by omega)⟩
theorem Lat.succ {zs : List Int} {a K : Int} {j : Nat} (h : Lat zs a K j) (hj : j < (clo zs a 1048577).length) (hn : num ((clo zs a 1048577).getD j 0) ≤ K + j) : Lat zs a K (j + 1) :=
  ⟨hj, fun i hi => by
    by_cases e : i = j
    · subst e; exact hn
    · exact h.low i (by omega)⟩

set_option maxRecDepth 20000 in
set_option maxHeartbeats 2000000 in
theorem later_any (zs : List Int) (a : Int) (m n : Nat) (A : Option Addr) (cap : Nat) (w : World) (ha : 0 ≤ a) (ha2 : a ≤ 1048577) (hm : m ≤ 1048576) (hl : zs.length = n) (hn : n ≤ 1000) (hz : ∀ x, x ∈ zs → I64 x) (hx : RdZ w A zs) :
    Calls Try.prog 30 #[.int .i64 a, .int .i64 m, .slice A n cap] w fun e w' => ∃ d, e = .returned (.int .i64 d) ∧ LaterZ zs a m d ∧ Chg [] w w' := by
  have h1 := num_nonneg ha
  have h2 := num_le ha
  have h4 := clo_len zs a 1048577
  have HMK := Lib.hid (fun j => laterZ_mk (zs := zs) (j := j) ha ha2 hm (by omega))
  have HCL := Lib.hid (closed_any zs a 1048577 n A cap)
  have HARGS : Hid (zs.length = n ∧ (∀ x, x ∈ zs → I64 x) ∧ RdZ w A zs) := Lib.hid ⟨hl, hz, hx⟩
  have HM : Hid (∀ x, x ∈ clo zs a 1048577 → 0 ≤ x ∧ x ≤ 1048576) := Lib.hid fun x hx => by
    have := (clo_mem zs a 1048577 x).1 hx; omega
  have hlz : (clo zs a 1048577).length ≤ 1000 := by omega
  clear hl hz hx h4
  obtain ⟨p, HP⟩ := name_it (num a)
  rw [HP.out] at h1 h2 HMK
  obtain ⟨L, HL⟩ := name_it (clo zs a 1048577)
  rw [HL.out] at HM hlz
  obtain ⟨l, Hl⟩ := name_it L.length
  rw [Hl.out] at hlz
  go_enter Try.func30, Try.ntmps30
  go_wp2_with (first
    | (go_at_call 31; refine (number_any a _ ha (by omega)).mono ?_; rintro e w' ⟨rfl, hw⟩; obtain rfl := hw.symm; clear hw; rw [HP.out])
    | (go_at_call 32; refine (HCL.out w HARGS.out.1 hn HARGS.out.2.1 HARGS.out.2.2).mono ?_; rintro e w1 ⟨v, rfl, hnew⟩; rw [HL.out] at hnew; obtain ⟨A1, cap1, rfl, hr⟩ := hnew.1.rdz; have hch := hnew.2.2; rw [Hl.out]; clear hnew))
  have HR := Lib.hid hr
  clear hr
  go_loopw [7, 18] (fun kv iv wr => ∃ j : Nat, j ≤ l ∧ iv = .int .i64 j ∧ kv = .int .i64 (p + m + j) ∧ Lat zs a (num a + m) j ∧ Chg [] w1 wr) (fun _ iv _ => l - (intOf iv).toNat)
  case atStart => exact ⟨0, Nat.zero_le _, rfl, by simp, Lat.zero _ _ _, Chg.refl _ _⟩
  case round =>
    obtain ⟨j, hj, rfl, rfl, hlat, hc1⟩ := hrel
    have HLA := Lib.hid hlat
    have hx := HR.out.keep0 hc1
    clear hlat
    by_cases hlt : j < l
    · obtain ⟨g, o, rfl, hg, a0⟩ := hx (by rw [Hl.out]; omega)
      have a1 := a0 j (by rw [Hl.out]; exact hlt)
      have hm1 := HM.out (L.getD j 0) (getD_mem (by rw [Hl.out]; exact hlt))
      obtain ⟨z, HZZ⟩ := name_it (L.getD j 0)
      rw [HZZ.out] at a1 hm1
      obtain ⟨z1, z2⟩ := hm1
      have i1 : (0 : Int) ≤ (j : Int) := by omega
      have i2 : (j : Int) < (l : Int) := by omega
      clear a0
      obtain ⟨s, HS⟩ := name_it (num z)
      by_cases hgt : p + m + j < s
      · have d1 : decide (p + m + j < s) = true := decide_eq_true hgt
        have HSTOP : Hid (Stop zs a (num a + m) j) := Lib.hid (.inr (by rw [HL.out, HP.out, HZZ.out, HS.out]; exact hgt))
        clear hgt
        go_wp2_with (first
          | (go_at_call 31; refine (number_any z _ z1 (by omega)).mono ?_; rintro e w' ⟨rfl, hw⟩; obtain rfl := hw.symm; clear hw; rw [HS.out])
          | (go_at_call 34; refine (numbered_any (p + m + j) _ (by omega) (by omega)).mono ?_; rintro e w' ⟨rfl, hw⟩; obtain rfl := hw.symm; clear hw))
        go_ret
        refine ⟨_, rfl, ?_, hch.then hc1⟩
        have := HMK.out j (by rw [← HP.out]; exact HLA.out) (by rw [← HP.out]; exact HSTOP.out)
        exact this
      · have d1 : decide (p + m + j < s) = false := decide_eq_false hgt
        have HLA2 := Lib.hid (HLA.out.succ (by rw [HL.out, Hl.out]; exact hlt) (by rw [HL.out, HP.out, HZZ.out, HS.out]; omega))
        clear hgt
        go_wp2_with (first
          | (go_at_call 31; refine (number_any z _ z1 (by omega)).mono ?_; rintro e w' ⟨rfl, hw⟩; obtain rfl := hw.symm; clear hw; rw [HS.out]))
        go_roundw
        case rel => exact ⟨j + 1, by omega, by go_num, by go_num, HLA2.out, hc1⟩
        case measure => simp [intOf]; omega
    · obtain rfl : j = l := by omega
      have HSTOP : Hid (Stop zs a (num a + m) j) := Lib.hid (.inl (by rw [HL.out, Hl.out]))
      clear hx
      go_wp2_with (first
          | (go_at_call 34; refine (numbered_any (p + m + j) _ (by omega) (by omega)).mono ?_; rintro e w' ⟨rfl, hw⟩; obtain rfl := hw.symm; clear hw))
      go_ret
      refine ⟨_, rfl, ?_, hch.then hc1⟩
      have := HMK.out j (by rw [← HP.out]; exact HLA.out) (by rw [← HP.out]; exact HSTOP.out)
      exact this
end Go.Proofs.Ytfmbekdhkilflaa
