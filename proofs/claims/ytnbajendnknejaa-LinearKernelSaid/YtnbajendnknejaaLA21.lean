/-
  The reference's Reduce; SameRows, SameInts; law 3: LinearReduce.
-/
import Derived.Test.YtnbajendnknejaaLX20
import Derived.Test.YtnbajendnknejaaLA20
namespace Go.Proofs.Ytnbajendnknejaa
open Go.RowKit Nd
theorem MutD.mtx {w : World} {g cap : Nat} {M : List (List Q3)} {h c : Nat → Nat} {n m : Nat} (H : MutD w g cap M h c n m) (hl : M.length = n) (hr : ∀ i, i < n → (M.getD i []).length = m) : Mtx w (some ⟨g, 0, none⟩) M := by
  intro _
  refine ⟨g, 0, rfl, H.hdr.lt, fun i hi => ?_⟩
  have hN := H.nums (show i < n by omega)
  have hf := hN.fits
  rw [hr i (by omega)] at hf ⊢
  refine ⟨some ⟨h i, 0, none⟩, c i, by rw [Nat.zero_add]; exact (H.cel (by omega)).c, hf.1, hf.2, hN.rds⟩
/-- The numbers L can be read from A on. -/
def RdI (w : World) (A : Option Addr) (L : List Nat) : Prop := 0 < L.length → ∃ g, A = some ⟨g, 0, none⟩ ∧ g < w.heap.size ∧ ∀ j, j < L.length → w.cell? ⟨g, j, none⟩ = some (.int .i64 ((L.getD j 0 : Nat) : Int))
theorem RdI.keep0 {w w' : World} {A : Option Addr} {L : List Nat} (h : RdI w A L) (hc : Chg [] w w') : RdI w' A L := by
  intro hl
  obtain ⟨g, e, hlt, hcell⟩ := h hl
  exact ⟨g, e, Nat.lt_of_lt_of_le hlt hc.size, fun j hj => (hc.cell (p := ⟨g, j, none⟩) hlt (by simp)).trans (hcell j hj)⟩
theorem RdI.of_row {w : World} {g cap : Nat} {L : List Nat} (h : Row 3 .i64 w g cap L) : RdI w (some ⟨g, 0, none⟩) L := fun _ => ⟨g, rfl, h.lt, fun j hj => h.cell j hj⟩
theorem OwnI.rdi {w : World} {v : Value} {L : List Nat} (h : OwnI w v L) : ∃ A cap, v = .slice A L.length cap ∧ RdI w A L := by
  rcases h.form with ⟨rfl, rfl⟩ | ⟨g, cap, rfl, hR⟩
  · exact ⟨none, 0, rfl, fun h => absurd h (by simp)⟩
  · exact ⟨_, cap, rfl, RdI.of_row hR⟩

set_option maxRecDepth 20000 in
set_option maxHeartbeats 1000000 in
theorem sameInts_n (L : List Nat) (n : Nat) (A B : Option Addr) (c d : Nat) (w : World) (hl : L.length = n) (hn : n ≤ 1000000) (hx : RdI w A L) (hy : RdI w B L) :
    Calls Try.prog 30 #[.slice A n c, .slice B n d] w fun e w' => e = .returned (.bool true) ∧ Chg [] w w' := by
  have hch : Chg [] w w := Chg.refl _ _
  have HL := Lib.hid hl
  clear hl
  have hne : ((n : Int) == (n : Int)) = true := by simp
  go_enter Try.func30, Try.ntmps30
  go_wp2_with fail
  go_loopw [5] (fun iv wr => ∃ k : Nat, k ≤ n ∧ iv = .int .i64 k ∧ RdI wr A L ∧ RdI wr B L ∧ Chg [] w wr) (fun iv _ => n - (intOf iv).toNat)
  case atStart => exact ⟨0, Nat.zero_le _, rfl, hx, hy, hch⟩
  case round =>
    clear hx hy hch
    obtain ⟨k, hk, rfl, hx, hy, hch⟩ := hrel
    by_cases hlt : k < n
    · obtain ⟨g, rfl, _, a0⟩ := hx (by rw [HL.out]; omega)
      obtain ⟨h, rfl, _, d0⟩ := hy (by rw [HL.out]; omega)
      have a1 := a0 k (by rw [HL.out]; exact hlt)
      have d1 := d0 k (by rw [HL.out]; exact hlt)
      obtain ⟨s, HS⟩ := name_it (L.getD k 0)
      rw [HS.out] at a1 d1
      have i1 : (0 : Int) ≤ (k : Int) := by omega
      have i2 : (k : Int) < (n : Int) := by omega
      clear a0 d0
      go_wp2_with fail
      go_quiet (fail)
      go_wp2_with fail
      go_roundw
      case rel => exact ⟨k + 1, by omega, by go_num, hx.keep0 ((Chg.refl [] _).drewN _), hy.keep0 ((Chg.refl [] _).drewN _), hch.drewN _⟩
      case measure => simp [intOf]; omega
    · go_wp2_with fail
      go_ret
      exact ⟨rfl, hch⟩

set_option maxRecDepth 20000 in
set_option maxHeartbeats 1000000 in
theorem sameRows_n (M : List (List Q3)) (n m : Nat) (A B : Option Addr) (c d : Nat) (w : World) (hl : M.length = n) (hr : ∀ i, i < n → (M.getD i []).length = m) (hn : n ≤ 1000000) (hm : m ≤ 1000000) (hx : Mtx w A M) (hy : Mtx w B M) :
    Calls Try.prog 29 #[.slice A n c, .slice B n d] w fun e w' => e = .returned (.bool true) ∧ Chg [] w w' := by
  have hch : Chg [] w w := Chg.refl _ _
  have HL := Lib.hid hl
  have HR := Lib.hid hr
  clear hl hr
  have hne : ((n : Int) == (n : Int)) = true := by simp
  go_enter Try.func29, Try.ntmps29
  go_wp2_with fail
  go_loopw [5] (fun iv wr => ∃ k : Nat, k ≤ n ∧ iv = .int .i64 k ∧ Mtx wr A M ∧ Mtx wr B M ∧ Chg [] w wr) (fun iv _ => n - (intOf iv).toNat)
  case atStart => exact ⟨0, Nat.zero_le _, rfl, hx, hy, hch⟩
  case round =>
    clear hx hy hch
    obtain ⟨k, hk, rfl, hx, hy, hch⟩ := hrel
    by_cases hlt : k < n
    · obtain ⟨g, o, rfl, _⟩ := hx.form (by rw [HL.out]; omega)
      obtain ⟨h, p, rfl, _⟩ := hy.form (by rw [HL.out]; omega)
      obtain ⟨B1, c1', a1, _, _, r1⟩ := hx.row (i := k) (by rw [HL.out]; exact hlt)
      obtain ⟨B2, c2', a2, _, _, r2⟩ := hy.row (i := k) (by rw [HL.out]; exact hlt)
      have hrl := HR.out k hlt
      rw [hrl] at a1 a2
      have HRL := Lib.hid hrl
      have i1 : (0 : Int) ≤ (k : Int) := by omega
      have i2 : (k : Int) < (n : Int) := by omega
      clear hrl
      have c8 : Chg [] wr wr.drew := (Chg.refl _ _).drew
      replace a1 := a1.keep0 c8
      replace a2 := a2.keep0 c8
      replace r1 := r1.keep0 c8
      replace r2 := r2.keep0 c8
      replace hx := hx.keep0 c8
      replace hy := hy.keep0 c8
      replace hch := hch.then c8
      clear c8
      go_wp2_with fail
      go_region_held3 (fun w' => w'.cell? ⟨g, o + k, none⟩ = some (.slice B1 m c1') ∧ w'.cell? ⟨h, p + k, none⟩ = some (.slice B2 m c2')) (first | exact ⟨a1.c, a2.c⟩) (first
          | (go_at_call 25
             (with_reducible refine (sameRats_n (M.getD k []) m B1 B2 c1' c2' _ HRL.out hm r1 r2).mono ?_)
             rintro e w1 ⟨rfl, c1⟩
             replace a1 := a1.keep0 c1
             replace a2 := a2.keep0 c1
             replace r1 := r1.keep0 c1
             replace r2 := r2.keep0 c1
             replace hx := hx.keep0 c1
             replace hy := hy.keep0 c1
             replace hch := hch.then c1
             clear c1
             skip))
      all_goals
        go_wp2_with fail
        go_roundw
        case rel => exact ⟨k + 1, by omega, by go_num, hx, hy, hch⟩
        case measure => simp [intOf]; omega
    · go_wp2_with fail
      go_ret
      exact ⟨rfl, hch⟩

set_option maxRecDepth 20000 in
set_option maxHeartbeats 1000000 in
theorem rReduce_bad (M : List (List Q3)) (A : Option Addr) (cap : Nat) (w : World) (hn : M.length ≤ 1000000) (hx : Mtx w A M) (hs : shapeE M ≠ 0) :
    Calls Try.prog 27 #[.slice A M.length cap] w fun e w' => e = .returned (.tuple #[.slice none 0 0, .slice none 0 0, .int .i64 (shapeE M : Nat)]) ∧ Chg [] w w' := by
  obtain ⟨s, HS⟩ := name_it (shapeE M)
  rw [HS.out] at hs
  rw [HS.out]
  have hs1 : ((s : Int) != 0) = true := by simp; omega
  go_enter Try.func27, Try.ntmps27
  go_wp2_with fail
  refine (rshape_any M A cap _ hn hx).mono ?_
  rintro e w1 ⟨rfl, c1⟩
  rw [HS.out]
  go_wp2_with fail
  go_ret3
  exact ⟨rfl, c1⟩

set_option maxRecDepth 20000 in
set_option maxHeartbeats 2000000 in
theorem rReduce_ok (M : List (List Q3)) (A : Option Addr) (cap : Nat) (k : Nat) (w : World) (hx : Mtx w A M) (hs : shapeE M = 0) (hk : 1 ≤ k) (hb : KR k (M.getD 0 []).length ≤ 4294967296) (hk2 : k ≤ 3000) (hfit : ∀ i, i < M.length → ∀ j, j < (M.getD 0 []).length → fits ((M.getD i []).getD j q0) k) :
    Calls Try.prog 27 #[.slice A M.length cap] w fun e w' => ∃ (v2 : Value) (g cp : Nat) (M' : List (List Q3)), e = .returned (.tuple #[.slice (some ⟨g, 0, none⟩) M.length cp, v2, .int .i64 0]) ∧ Mtx w' (some ⟨g, 0, none⟩) M' ∧ OwnI w' v2 (ech (matQ M) M.length (M.getD 0 []).length).2 ∧ Vals M' (ech (matQ M) M.length (M.getD 0 []).length).1 M.length (M.getD 0 []).length (KR k (M.getD 0 []).length) ∧ Chg [] w w' := by
  obtain ⟨s0, s1, s2, s3, s4⟩ := shapeE_ok hs
  obtain ⟨Q, HQ⟩ := name_it (matQ M)
  rw [HQ.out]
  obtain ⟨n, HN⟩ := name_it M.length
  obtain ⟨m, HM⟩ := name_it (M.getD 0 []).length
  rw [HN.out] at s0 s3 s2 hfit
  rw [HM.out] at s1 s4 s2 hfit hb
  have HROW := Lib.hid s2
  have HFIT := Lib.hid hfit
  have HSH := Lib.hid hs
  have HX := Lib.hid hx
  have HB := Lib.hid hb
  have hch : Chg [] w w := Chg.refl _ _
  rw [HN.out, HM.out]
  clear hx hs s2 hfit hb
  go_enter Try.func27, Try.ntmps27
  go_wp2_with fail
  rw [← HN.out]
  refine (rshape_any M _ cap _ (by rw [HN.out]; omega) HX.out).mono ?_
  rintro e w1 ⟨rfl, c1⟩
  rw [HSH.out, HN.out]
  replace hch := hch.then c1
  clear c1
  go_wp2_with fail
  refine (rfixedRows_any M _ n m cap k _ HN.out HROW.out (by omega) (by omega) (by omega) hk (by omega) HFIT.out (HX.out.keep0 hch)).mono ?_
  rintro e w2 ⟨v2, M2, rfl, hM2, hV2, _, c1⟩
  replace hch := hch.then c1
  obtain ⟨A2, cp2, rfl, _, _, hm2⟩ := hM2.mtx
  rw [hV2.len]
  rw [HQ.out] at hV2
  have HV2 := Lib.hid hV2
  have HM2 := Lib.hid hm2
  clear c1 hV2 hM2 hm2
  go_wp2_with fail
  refine (rechelon_any M2 Q n m k A2 cp2 _ HV2.out (by omega) (by omega) (by omega) (by omega) hk HB.out HM2.out).mono ?_
  rintro e w3 ⟨v3, g, cp, M', h, c, rfl, hD, hO, hV, c1⟩
  have HMX := Lib.hid (hD.mtx hV.len hV.row)
  have HV := Lib.hid hV
  have HO := Lib.hid hO
  replace hch := hch.then c1
  clear c1 hD hO hV
  go_wp2_with fail
  go_ret3
  exact ⟨v3, g, cp, M', rfl, HMX.out, HO.out, HV.out, hch⟩


theorem KR_small {m : Nat} (hm : m ≤ 6) : KR 24 m ≤ 4294967296 := by
  have h1 := KR_le 24 hm
  have h2 := KR_pow 24 6
  omega
theorem sameRows_nil (A B : Option Addr) (c d : Nat) (w : World) :
    Calls Try.prog 29 #[.slice A 0 c, .slice B 0 d] w fun e w' => e = .returned (.bool true) ∧ Chg [] w w' :=
  sameRows_n [] 0 0 A B c d w rfl (fun i h => absurd h (by omega)) (by omega) (by omega) (Mtx.nil _ _) (Mtx.nil _ _)
theorem sameInts_nil (A B : Option Addr) (c d : Nat) (w : World) :
    Calls Try.prog 30 #[.slice A 0 c, .slice B 0 d] w fun e w' => e = .returned (.bool true) ∧ Chg [] w w' :=
  sameInts_n [] 0 A B c d w rfl (by omega) (fun h => absurd h (by simp)) (fun h => absurd h (by simp))

set_option maxRecDepth 20000 in
set_option maxHeartbeats 4000000 in
theorem lreduce_any (M : List (List Q3)) (A : Option Addr) (cap : Nat) (w : World) (hM : Mtx w A M) :
    Calls Try.prog 4 #[.slice A M.length cap] w fun e w' => e = .returned (.bool true) ∧ Chg [] w w' := by
  have hch : Chg [] w w := Chg.refl _ _
  cases hf : (decide (M.length ≤ 5) && fewM 5 M)
  · have HF := Lib.hid hf
    clear hf
    go_enter Try.func4, Try.ntmps4
    go_wp2_with fail
    refine (fewRows_any M A cap 5 _ (by omega) hM).mono ?_
    rintro e w1 ⟨rfl, c1⟩
    rw [HF.out]
    replace hch := hch.then c1
    clear c1
    go_wp2_with fail
    refine (awake3_any _).mono ?_
    rintro e w2 ⟨rfl, c1⟩
    replace hch := hch.then c1
    clear c1
    go_wp2_with fail
    go_ret
    exact ⟨rfl, hch⟩
  · have HF := Lib.hid hf
    have hf2 : M.length ≤ 5 ∧ fewM 5 M = true := by simpa using hf
    have hm5 := hf2.1
    have HFM := Lib.hid hf2.2
    clear hf hf2
    by_cases hs : shapeE M = 0
    · have HS := Lib.hid hs
      have hfit := fewM_fits HFM.out hs
      have hrow0 := (fewM_row HFM.out (i := 0) (by have := (shapeE_ok hs).1; omega)).1
      have hKR := KR_small (m := (M.getD 0 []).length) (by omega)
      have HRED := Lib.hid (fun (w : World) (hM : Mtx w A M) => Reduce_ok M A cap 24 w (by omega) hM hs (by omega) (by omega) hfit)
      have HRR := Lib.hid (fun (w : World) (hM : Mtx w A M) => rReduce_ok M A cap 24 w hM hs (by omega) hKR (by omega) hfit)
      have HRK := Lib.hid (fun (w : World) (hM : Mtx w A M) => Rank_ok M A cap 24 w (by omega) hM hs (by omega) (by omega) hfit)
      have hple := (ech_holds (matQ M) M.length (M.getD 0 []).length).len
      clear hs hKR hfit
      obtain ⟨f, Hf⟩ := name_it (ech (matQ M) M.length (M.getD 0 []).length).1
      obtain ⟨pv, Hpv⟩ := name_it (ech (matQ M) M.length (M.getD 0 []).length).2
      have OPN := Lib.hid (fun (w w' : World) gf gp cp Mf (h : Red w w' M 24 gf gp cp Mf) => (⟨h.mtr.mtx, by have := h.vals; rw [Hf.out] at this; exact this.can, by have := h.row; rw [Hpv.out] at this; exact RdI.of_row this⟩ : Mtx w' (some ⟨gf, 0, none⟩) Mf ∧ Mf = canM f M.length (M.getD 0 []).length ∧ RdI w' (some ⟨gp, 0, none⟩) pv))
      rw [Hpv.out] at HRED HRR HRK hple
      rw [Hf.out] at HRR
      obtain ⟨n, HN⟩ := name_it M.length
      obtain ⟨m, HM⟩ := name_it (M.getD 0 []).length
      rw [HN.out] at HRED HRR HRK OPN hm5 hple
      rw [HM.out] at HRR OPN hrow0
      obtain ⟨r, Hr⟩ := name_it pv.length
      rw [Hr.out] at HRED HRK hple
      have HFR := Lib.hid (fun (w : World) (hM : Mtx w A M) => fewRows_any M A cap 5 w (by omega) hM)
      have HF2 := HF.out
      rw [HN.out] at HFR
      rw [HN.out] at HF2
      have HF3 := Lib.hid HF2
      rw [HN.out]
      clear HF2
      go_enter Try.func4, Try.ntmps4
      go_wp2_with fail
      refine (HFR.out _ hM).mono ?_
      rintro e w1 ⟨rfl, c1⟩
      rw [HF3.out]
      replace hM := hM.keep0 c1
      replace hch := hch.then c1
      clear c1
      go_wp2_with fail
      refine (HRED.out _ hM).mono ?_
      rintro e w2 ⟨gf, gp, cp, Mf, rfl, hred, c1⟩
      obtain ⟨hx1, he1, hp1⟩ := OPN.out _ _ _ _ _ _ hred
      have HE1 := Lib.hid he1
      clear hred he1
      replace hM := hM.keep0 c1
      replace hch := hch.then c1
      clear c1
      go_wp2_with fail
      refine (HRR.out _ hM).mono ?_
      rintro e w3 ⟨v2, g2, cp2, M2, rfl, hx2, hO, hV, c1⟩
      have HE2 := Lib.hid hV.can
      obtain ⟨B2, cb2, rfl, hp2⟩ := hO.rdi
      rw [Hr.out]
      clear hO hV
      replace hM := hM.keep0 c1
      replace hx1 := hx1.keep0 c1
      replace hp1 := hp1.keep0 c1
      replace hch := hch.then c1
      clear c1
      go_wp2_with fail
      refine (HRK.out _ hM).mono ?_
      rintro e w4 ⟨rfl, c1⟩
      replace hx1 := hx1.keep0 c1
      replace hp1 := hp1.keep0 c1
      replace hx2 := hx2.keep0 c1
      replace hp2 := hp2.keep0 c1
      replace hch := hch.then c1
      clear c1
      go_wp2_with fail
      refine (awake3_any _).mono ?_
      rintro e w5 ⟨rfl, c1⟩
      replace hx1 := hx1.keep0 c1
      replace hp1 := hp1.keep0 c1
      replace hx2 := hx2.keep0 c1
      replace hp2 := hp2.keep0 c1
      replace hch := hch.then c1
      clear c1
      go_wp2_with fail
      refine (sameRows_n (canM f n m) n m _ _ _ _ _ (canM_length f n m) (fun i hi => by rw [canM_get f m hi, canL_length]) (by omega) (by omega) (by rw [HE1.out] at hx1; exact hx1) (by rw [HE2.out] at hx2; exact hx2)).mono ?_
      rintro e w6 ⟨rfl, c1⟩
      replace hp1 := hp1.keep0 c1
      replace hp2 := hp2.keep0 c1
      replace hch := hch.then c1
      clear c1
      go_wp2_with fail
      refine (sameInts_n pv r _ _ _ _ _ Hr.out (by omega) hp1 hp2).mono ?_
      rintro e w7 ⟨rfl, c1⟩
      replace hch := hch.then c1
      clear c1
      go_wp2_with fail
      go_ret
      exact ⟨ret_eq (by simp), hch⟩
    · have HSN := Lib.hid hs
      have HFR := Lib.hid (fun (w : World) (hM : Mtx w A M) => fewRows_any M A cap 5 w (by omega) hM)
      have HRED := Lib.hid (fun (w : World) (hM : Mtx w A M) => Reduce_bad M A cap w (by omega) hM HSN.out)
      have HRR := Lib.hid (fun (w : World) (hM : Mtx w A M) => rReduce_bad M A cap w (by omega) hM HSN.out)
      have HRK := Lib.hid (fun (w : World) (hM : Mtx w A M) => Rank_bad M A cap w (by omega) hM HSN.out)
      obtain ⟨s, HS⟩ := name_it (shapeE M)
      rw [HS.out] at HRED HRR HRK
      have HF2 := HF.out
      obtain ⟨n, HN⟩ := name_it M.length
      rw [HN.out] at HFR HRED HRR HRK HF2
      have HF3 := Lib.hid HF2
      rw [HN.out]
      clear hs HF2
      go_enter Try.func4, Try.ntmps4
      go_wp2_with fail
      refine (HFR.out _ hM).mono ?_
      rintro e w1 ⟨rfl, c1⟩
      rw [HF3.out]
      replace hM := hM.keep0 c1
      replace hch := hch.then c1
      clear c1
      go_wp2_with fail
      refine (HRED.out _ hM).mono ?_
      rintro e w2 ⟨rfl, c1⟩
      replace hM := hM.keep0 c1
      replace hch := hch.then c1
      clear c1
      go_wp2_with fail
      refine (HRR.out _ hM).mono ?_
      rintro e w3 ⟨rfl, c1⟩
      replace hM := hM.keep0 c1
      replace hch := hch.then c1
      clear c1
      go_wp2_with fail
      refine (HRK.out _ hM).mono ?_
      rintro e w4 ⟨rfl, c1⟩
      replace hch := hch.then c1
      clear c1
      go_wp2_with fail
      refine (awake3_any _).mono ?_
      rintro e w5 ⟨rfl, c1⟩
      replace hch := hch.then c1
      clear c1
      go_wp2_with fail
      refine (sameRows_nil _ _ _ _ _).mono ?_
      rintro e w6 ⟨rfl, c1⟩
      replace hch := hch.then c1
      clear c1
      go_wp2_with fail
      refine (sameInts_nil _ _ _ _ _).mono ?_
      rintro e w7 ⟨rfl, c1⟩
      replace hch := hch.then c1
      clear c1
      go_wp2_with fail
      go_ret
      exact ⟨ret_eq (by simp), hch⟩

end Go.Proofs.Ytnbajendnknejaa
