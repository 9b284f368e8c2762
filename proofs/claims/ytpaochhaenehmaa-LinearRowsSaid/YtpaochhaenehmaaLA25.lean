/-
  Law 3: LinearRows.
-/
import Derived.Test.YtpaochhaenehmaaLM9
import Derived.BigQuiet
namespace Go.Proofs.Ytpaochhaenehmaa
open Go.RowKit Nd

/-- The matrix behind the change of row p. -/
def rowG (F : Nat → Nat → Rat) (p q : Nat) (a : Rat) : Nat → Nat → Rat := if p = q then F else addR F p q a
theorem rowG_null {F : Nat → Nat → Rat} {p q n m : Nat} {a : Rat} {x : Nat → Rat} (hp : p < n) (hq : q < n) : Null (rowG F p q a) n m x ↔ Null F n m x := by
  unfold rowG
  by_cases h : p = q
  · rw [if_pos h]
  · rw [if_neg h]; exact addR_null hp hq h
theorem reduce_vals (X : List (List Q3)) (F : Nat → Nat → Rat) (g cp n m K : Nat) (u : World) (hV : Vals X F n m K) (hn0 : 0 < n) (hn : n ≤ 4) (hm0 : 0 < m) (hm : m ≤ 4) (hK1 : 1 ≤ K) (hK : K ≤ 4) (hu : Mtx u (some ⟨g, 0, none⟩) X) :
    Calls Try.prog 10 #[.slice (some ⟨g, 0, none⟩) n cp] u fun e w' => ∃ gf gp cq, e = .returned (.tuple #[.slice (some ⟨gf, 0, none⟩) n n, .slice (some ⟨gp, 0, none⟩) (ech F n m).2.length cq, .int .i64 0]) ∧ Mtx w' (some ⟨gf, 0, none⟩) (canM (ech F n m).1 n m) ∧ RdI w' (some ⟨gp, 0, none⟩) (ech F n m).2 ∧ Chg [] u w' := by
  obtain ⟨e1, e2⟩ := ech_congr (f := matQ X) (g := F) (n := n) (m := m) (fun i hi j hj => (hV.val i hi j hj).num.rat) m (Nat.le_refl _)
  have hl := hV.len
  have h0 := hV.row 0 hn0
  have h := Reduce_ok X (some ⟨g, 0, none⟩) cp K u (by rw [hl]; omega) hu (vals_shape hV hn0 (by omega) hm0 (by omega)) hK1 (by omega) (vals_fits hV (Nat.le_refl _) hn0)
  rw [hl, h0, e1] at h
  refine h.mono ?_
  rintro e w1 ⟨gf, gp, cq, Mf, rfl, hred, c1⟩
  have hv := hred.vals
  rw [hl, h0] at hv
  have hcan : Mf = canM (ech F n m).1 n m := by rw [hv.can]; exact canM_congr e2
  have hrow := hred.row
  rw [hl, h0, e1] at hrow
  have hm := hred.mtr.mtx
  rw [hcan] at hm
  exact ⟨gf, gp, cq, rfl, hm, RdI.of_row hrow, c1⟩

set_option maxRecDepth 20000 in
set_option linter.unusedSimpArgs false in
set_option maxHeartbeats 8000000 in
theorem lrows_any (r c : Int) (L : List Int) (l : Nat) (A : Option Addr) (cap : Nat) (ti tj b : Int) (w : World) (hr : 0 ≤ r ∧ r ≤ 255) (hc : 0 ≤ c ∧ c ≤ 255) (hl : L.length = l) (hl2 : l ≤ 9223372036854775807) (hL : ∀ x, x ∈ L → 0 ≤ x ∧ x ≤ 65535) (hx : RdW w A L) (hi : 0 ≤ ti ∧ ti ≤ 255) (hj : 0 ≤ tj ∧ tj ≤ 255) (hb : 0 ≤ b ∧ b ≤ 65535) :
    Calls Try.prog 5 #[.int .u8 r, .int .u8 c, .slice A l cap, .int .u8 ti, .int .u8 tj, .int .u16 b] w fun e w' => e = .returned (.bool true) ∧ Chg [] w w' := by
  obtain ⟨r1, r2⟩ := hr
  obtain ⟨r3, r4⟩ := hc
  obtain ⟨r5, r6⟩ := hb
  obtain ⟨r7, r8⟩ := hi
  obtain ⟨r9, r10⟩ := hj
  obtain ⟨n, Hn⟩ : ∃ n : Nat, Hid (2 + r % 3 = (n : Int)) := ⟨(2 + r % 3).toNat, Lib.hid (by omega)⟩
  obtain ⟨m, Hm⟩ : ∃ m : Nat, Hid (1 + c % 4 = (m : Int)) := ⟨(1 + c % 4).toNat, Lib.hid (by omega)⟩
  have hn2 : 2 ≤ n := by have := Hn.out; omega
  have hn4 : n ≤ 4 := by have := Hn.out; omega
  have hm1 : 1 ≤ m := by have := Hm.out; omega
  have hm4 : m ≤ 4 := by have := Hm.out; omega
  obtain ⟨p, Hp⟩ : ∃ p : Nat, Hid (ti % (n : Int) = (p : Int) ∧ p < n) := by
    have h1 := Int.emod_nonneg ti (show (n : Int) ≠ 0 by omega)
    have h2 := Int.emod_lt_of_pos ti (show (0 : Int) < (n : Int) by omega)
    exact ⟨(ti % (n : Int)).toNat, Lib.hid ⟨by omega, by omega⟩⟩
  obtain ⟨q, Hq⟩ : ∃ q : Nat, Hid (tj % (n : Int) = (q : Int) ∧ q < n) := by
    have h1 := Int.emod_nonneg tj (show (n : Int) ≠ 0 by omega)
    have h2 := Int.emod_lt_of_pos tj (show (0 : Int) < (n : Int) by omega)
    exact ⟨(tj % (n : Int)).toNat, Lib.hid ⟨by omega, by omega⟩⟩
  have hpn := Hp.out.2
  have hqn := Hq.out.2
  have hp1 : ti.tmod (n : Int) = (p : Int) := by rw [Int.tmod_eq_emod_of_nonneg r7]; exact Hp.out.1
  have hq1 : tj.tmod (n : Int) = (q : Int) := by rw [Int.tmod_eq_emod_of_nonneg r9]; exact Hq.out.1
  have Hp1 := Lib.hid Hp.out.1
  have Hq1 := Lib.hid Hq.out.1
  have Hp2 := Lib.hid hp1
  have Hq2 := Lib.hid hq1
  have hch : Chg [] w w := Chg.refl _ _
  have HX := Lib.hid hx
  have HMX := Lib.hid (fun u (hu : RdW u A L) => matrix_any n m L l A cap u (by omega) (by omega) (by omega) (by omega) hl hl2 hL hu)
  have HSG := Lib.hid (fun u => lsigned_any b u r5 r6)
  clear hl hL hx r5 r6 hp1 hq1 Hp Hq
  go_enter Try.func5, Try.ntmps5
  go_wp2_with fail
  rw [Hn.out, Hm.out]
  refine (HMX.out _ (HX.out.keep0 hch)).mono ?_
  rintro e w1 ⟨ga, ca, M, h1, c1', rfl, hD, hV, _, _, c1⟩
  replace hch := hch.then c1
  have hM := hD.mtx hV.len hV.row
  have HV := Lib.hid hV
  clear c1 hD hV
  have HM := Lib.hid hM
  have HCH1 := Lib.hid hch
  clear hM hch
  go_wp2_with fail
  refine (HMX.out _ (HX.out.keep0 HCH1.out)).mono ?_
  rintro e w2 ⟨gb, cb, Mb, h, c2', rfl, hD, hV, hgb, hge, c1⟩
  have HGE := Lib.hid hge
  have HGB := Lib.hid hgb
  have HVB := Lib.hid hV
  have HD := Lib.hid hD
  have HC1 := Lib.hid c1
  clear hV hge hgb hD c1
  go_wp2_with fail
  have hpp := Hp2.out
  have hqq := Hq2.out
  have hw1 : IntKind.i64.wrap ti = ti := by rw [IntKind.wrap_i64]; omega
  have hw2 : IntKind.i64.wrap tj = tj := by rw [IntKind.wrap_i64]; omega
  have hn0 : ((n : Int) == 0) = false := by simp; omega
  go_quiet (fail)
  clear hpp hqq hw1 hw2
  go_wp2_with fail
  refine (HSG.out _).mono ?_
  rintro e w3 ⟨z, rfl, hz, c2⟩
  obtain ⟨f, HF⟩ := name_it (sgnQ b)
  rw [HF.out] at hz
  have HZ := Lib.hid hz
  have c3 : Chg [] w3 (w3.alloc (.cells #[.bool z.neg, .string z.num, .string z.den] 26)) := (Chg.refl _ _).alloc _
  have b3 := Blk3.alloc w3 (.bool z.neg) (.string z.num) (.string z.den) 26
  have c20 : Chg [] w2 w3 := ((Chg.refl [] w2).drewN _).then c2
  have HBLT : Hid (∀ i, i < n → h i < w3.heap.size) := Lib.hid (fun i hi => by have := (HD.out.nums hi).lt; have := c20.size; omega)
  have hc1 := (HC1.out.then c20).then c3
  have hD3 := (HD.out.keep0 c20).keep0 c3
  obtain ⟨gz, HGZ⟩ := name_it w3.heap.size
  rw [HGZ.out] at b3 HBLT
  have hHD := hD3.hdr
  have HIJ := Lib.hid hD3.inj
  have HOF := Lib.hid hD3.off
  have hPO : Pool (w3.alloc (.cells #[.bool z.neg, .string z.num, .string z.den] 26)) Mb h c2' n (fun i => i = p) := ⟨fun i hi _ => hD3.nums hi⟩
  have hN := hD3.nums hpn
  have R1 := Lib.hid (HVB.out.at_ hpn)
  have RQ := Lib.hid (HVB.out.at_ hqn)
  obtain ⟨y, HY⟩ := name_it (Mb.getD p [])
  rw [HY.out] at hN R1
  have hyl := Lib.hid R1.out.len
  have j1 : (0 : Int) ≤ (p : Int) := by omega
  have j2 : (p : Int) < (n : Int) := by omega
  have j3 : (0 : Int) ≤ (q : Int) := by omega
  have j4 : (q : Int) < (n : Int) := by omega
  clear c2 c3 c20 hD3 hz
  go_wp2_with fail
  rw [HGZ.out]
  go_loopw [20] (fun kv wx => ∃ (k : Nat) (zs : List Q3), k ≤ m ∧ kv = .int .i64 k ∧ zs.length = m ∧ (∀ j, j < k → Val (zs.getD j q0) (mtxQ m L p j + f * mtxQ m L q j) 4) ∧ (∀ j, k ≤ j → zs.getD j q0 = y.getD j q0) ∧ (p = q → k = 0) ∧ Nums wx (h p) (c2' p) zs ∧ Blk3 wx gz (.bool z.neg) (.string z.num) (.string z.den) ∧ Hdr wx gb cb (hdrs h c2' m n) ∧ Pool wx Mb h c2' n (fun i => i = p) ∧ Chg [] w1 wx) (fun kv _ => m - (intOf kv).toNat)
  case atStart => exact ⟨0, y, Nat.zero_le _, rfl, hyl.out, fun j h => absurd h (by omega), fun j _ => rfl, fun _ => rfl, hN, b3, hHD, hPO, hc1⟩
  case round =>
    clear hN b3 hHD hPO hc1
    obtain ⟨k, zs, hk, rfl, hzl, hval, hrest, hk0, hN, b3, hH, hP, hch⟩ := hrel
    have HZL := Lib.hid hzl
    have HVAL := Lib.hid hval
    have HREST := Lib.hid hrest
    have HK0 := Lib.hid hk0
    clear hzl hval hrest hk0
    by_cases hkn : k < m ∧ p ≠ q
    · obtain ⟨hkm, hpq⟩ := hkn
      have HPQ := Lib.hid hpq
      have e1 := hN.el (j := k) (by rw [HZL.out]; exact hkm)
      rw [HREST.out k (Nat.le_refl _)] at e1
      have v1 := R1.out.val k hkm
      obtain ⟨z0, HZ0⟩ := name_it (y.getD k q0)
      rw [HZ0.out] at e1 v1
      have e4 := (hP.row q hqn (Ne.symm hpq)).el (j := k) (by rw [RQ.out.len]; exact hkm)
      have v4 := RQ.out.val k hkm
      obtain ⟨z4, HZ4⟩ := name_it ((Mb.getD q []).getD k q0)
      rw [HZ4.out] at e4 v4
      obtain ⟨u, HU⟩ := name_it (mtxQ m L p k)
      rw [HU.out] at v1
      obtain ⟨v, HVV⟩ := name_it (mtxQ m L q k)
      rw [HVV.out] at v4
      have j5 : (0 : Int) ≤ (k : Int) := by omega
      have j6 : (k : Int) < (m : Int) := by omega
      have hcp : Cel wr gb p (.slice (some ⟨h p, 0, none⟩) m (c2' p)) := ⟨hH.lt, by rw [hH.cell (by rw [hdrs_length]; exact hpn), hdrs_get h c2' m hpn]⟩
      have hcq : Cel wr gb q (.slice (some ⟨h q, 0, none⟩) m (c2' q)) := ⟨hH.lt, by rw [hH.cell (by rw [hdrs_length]; exact hqn), hdrs_get h c2' m hqn]⟩
      have d1 : decide ((k : Int) < (m : Int)) = true := decide_eq_true (by omega)
      have d2 : ((p : Int) == (q : Int)) = false := by simp; omega
      have d3 : decide ((p : Int) = (q : Int)) = false := decide_eq_false (by omega)
      have d4 : ¬ p = q := hpq
      have hgi : gb ≠ h p := Ne.symm (HOF.out p hpn)
      have hbi : gz ≠ h p := by have := HBLT.out p hpn; omega
      have hri : h q ≠ h p := fun e => hpq (HIJ.out _ _ hqn hpn e).symm
      clear hk
      have HH := Lib.hid hH
      have HPO := Lib.hid hP
      clear hH hP
      have b3c0 := b3.c0
      have b3c1 := b3.c1
      have b3c2 := b3.c2
      have b3f0 := b3.f0
      have b3f1 := b3.f1
      have b3f2 := b3.f2
      have b3l := b3.lt
      have e1a := e1.a
      have e1b := e1.b
      have e1c := e1.c
      have e4a := e4.a
      have e4b := e4.b
      have e4c := e4.c
      have hcpc := hcp.c
      have hcqc := hcq.c
      go_wp2_with fail
      clear b3c0 b3c1 b3c2 b3f0 b3f1 b3f2 b3l e1a e1b e1c e4a e4b e4c hcpc hcqc
      have c8 : Chg [] wr wr.drew := (Chg.refl _ _).drew
      have hH := HH.out.keep c8 (by simp)
      have hP := HPO.out.keep0 c8
      replace b3 := b3.keep c8 (by simp)
      replace hN := hN.keep c8 (by simp)
      replace e1 := e1.keep0 c8
      replace e4 := e4.keep0 c8
      replace hcp := hcp.keep0 c8
      replace hcq := hcq.keep0 c8
      replace hch := hch.then c8
      clear c8
      have s3 := hN.frozen (k * 3)
      have s4 := hN.frozen (k * 3 + 1)
      have s5 := hN.frozen (k * 3 + 2)
      have e1a := e1.a
      have e1b := e1.b
      have e1c := e1.c
      refine wp_region_held_drew (S := (fun w' => w'.cell? ⟨gb, p, none⟩ = some (.slice (some ⟨h p, 0, none⟩) m (c2' p)) ∧ w'.cell? ⟨gb, q, none⟩ = some (.slice (some ⟨h q, 0, none⟩) m (c2' q)) ∧ w'.cell? ⟨h q, k * 3, none⟩ = some (.bool z4.neg) ∧ w'.cell? ⟨h q, k * 3 + 1, none⟩ = some (.string z4.num) ∧ w'.cell? ⟨h q, k * 3 + 2, none⟩ = some (.string z4.den) ∧ w'.cell? ⟨gz, 0, none⟩ = some (.bool z.neg) ∧ w'.cell? ⟨gz, 1, none⟩ = some (.string z.num) ∧ w'.cell? ⟨gz, 2, none⟩ = some (.string z.den))) (by kernel_rfl) ?_ (fun hHeld => ?_)
      · exact ⟨hcp.c, hcq.c, e4.a, e4.b, e4.c, b3.c0, b3.c1, b3.c2⟩
      refine wpAnyH_take (i := 0) (v := ?_) rfl (by kernel_rfl) (by kernel_rfl) (by kernel_rfl) (fun _ _ _ h => h) (Or.inl ⟨by rfl, ?_⟩) (by assumption) ?_
      rotate_left 1
      · intro w hSw
        try dsimp only at hSw
        go_simp
        try with_reducible rfl
      try simp only [Act.put, List.setIfInBounds_toArray, List.set_cons_zero, List.set_cons_succ]
      refine wpAnyH_take (i := 1) (v := ?_) rfl (by kernel_rfl) (by kernel_rfl) (by kernel_rfl) (fun _ _ _ h => h) (Or.inl ⟨by rfl, ?_⟩) (by assumption) ?_
      rotate_left 1
      · intro w hSw
        try dsimp only at hSw
        go_simp
        try with_reducible rfl
      try simp only [Act.put, List.setIfInBounds_toArray, List.set_cons_zero, List.set_cons_succ]
      refine wpAnyH_take (i := 2) (v := ?_) rfl (by kernel_rfl) (by kernel_rfl) (by kernel_rfl) (fun _ _ _ h => h) (Or.inl ⟨by rfl, ?_⟩) (by assumption) ?_
      rotate_left 1
      · intro w hSw
        try dsimp only at hSw
        go_simp
        try with_reducible rfl
      try simp only [Act.put, List.setIfInBounds_toArray, List.set_cons_zero, List.set_cons_succ]
      refine wpAnyH_take (i := 3) (v := ?_) rfl (by kernel_rfl) (by kernel_rfl) (by kernel_rfl) (fun _ _ _ h => h) (Or.inl ⟨by rfl, ?_⟩) (by assumption) ?_
      rotate_left 1
      · intro w hSw
        try dsimp only at hSw
        go_simp
        try with_reducible rfl
      try simp only [Act.put, List.setIfInBounds_toArray, List.set_cons_zero, List.set_cons_succ]
      refine wpAnyH_take (i := 4) (v := ?_) rfl (by kernel_rfl) (by kernel_rfl) (by kernel_rfl) (fun _ _ _ h => h) (Or.inl ⟨by rfl, ?_⟩) (by assumption) ?_
      rotate_left 1
      · intro w hSw
        try dsimp only at hSw
        go_simp
        try with_reducible rfl
      try simp only [Act.put, List.setIfInBounds_toArray, List.set_cons_zero, List.set_cons_succ]
      refine wpAnyH_take (i := 5) (v := ?_) rfl (by kernel_rfl) (by kernel_rfl) (by kernel_rfl) (fun _ _ _ h => h) (Or.inl ⟨by rfl, ?_⟩) (by assumption) ?_
      rotate_left 1
      · intro w hSw
        try dsimp only at hSw
        go_simp
        try with_reducible rfl
      try simp only [Act.put, List.setIfInBounds_toArray, List.set_cons_zero, List.set_cons_succ]
      refine wpAnyH_take (i := 6) (v := ?_) rfl (by kernel_rfl) (by kernel_rfl) (by kernel_rfl) (fun _ _ _ h => h) (Or.inl ⟨by rfl, ?_⟩) (by assumption) ?_
      rotate_left 1
      · intro w hSw
        try dsimp only at hSw
        go_simp
        try with_reducible rfl
      try simp only [Act.put, List.setIfInBounds_toArray, List.set_cons_zero, List.set_cons_succ]
      refine wpAnyH_take (i := 7) (v := ?_) rfl (by kernel_rfl) (by kernel_rfl) (by kernel_rfl) (fun _ _ _ h => h) (Or.inl ⟨by rfl, ?_⟩) (by assumption) ?_
      rotate_left 1
      · intro w hSw
        try dsimp only at hSw
        go_simp
        try with_reducible rfl
      try simp only [Act.put, List.setIfInBounds_toArray, List.set_cons_zero, List.set_cons_succ]
      refine wpAnyH_take (i := 8) (v := ?_) rfl (by kernel_rfl) (by kernel_rfl) (by kernel_rfl) (fun _ _ _ h => h) (Or.inl ⟨by rfl, ?_⟩) (by assumption) ?_
      rotate_left 1
      · intro w hSw
        try dsimp only at hSw
        go_simp
        try with_reducible rfl
      try simp only [Act.put, List.setIfInBounds_toArray, List.set_cons_zero, List.set_cons_succ]
      refine wpAnyH_take (i := 9) (v := ?_) rfl (by kernel_rfl) (by kernel_rfl) (by kernel_rfl) (fun _ _ _ h => h) (Or.inl ⟨by rfl, ?_⟩) (by assumption) ?_
      rotate_left 1
      · intro w hSw
        try dsimp only at hSw
        go_simp
        try with_reducible rfl
      try simp only [Act.put, List.setIfInBounds_toArray, List.set_cons_zero, List.set_cons_succ]
      refine wpAnyH_take (i := 10) (v := ?_) rfl (by kernel_rfl) (by kernel_rfl) (by kernel_rfl) (fun _ _ _ h => h) (Or.inl ⟨by rfl, ?_⟩) (by assumption) ?_
      rotate_left 1
      · intro w hSw
        try dsimp only at hSw
        go_simp
        try with_reducible rfl
      try simp only [Act.put, List.setIfInBounds_toArray, List.set_cons_zero, List.set_cons_succ]
      refine wpAnyH_take (i := 12) (v := ?_) rfl (by kernel_rfl) (by kernel_rfl) (by kernel_rfl) (fun _ _ _ h => h) (Or.inl ⟨by rfl, ?_⟩) (by assumption) ?_
      rotate_left 1
      · intro w hSw
        try dsimp only at hSw
        go_simp
        try with_reducible rfl
      try simp only [Act.put, List.setIfInBounds_toArray, List.set_cons_zero, List.set_cons_succ]
      refine wpAnyH_take (i := 13) (v := ?_) rfl (by kernel_rfl) (by kernel_rfl) (by kernel_rfl) (fun _ _ _ h => h) (Or.inl ⟨by rfl, ?_⟩) (by assumption) ?_
      rotate_left 1
      · intro w hSw
        try dsimp only at hSw
        go_simp
        try with_reducible rfl
      try simp only [Act.put, List.setIfInBounds_toArray, List.set_cons_zero, List.set_cons_succ]
      refine wpAnyH_take (i := 14) (v := ?_) rfl (by kernel_rfl) (by kernel_rfl) (by kernel_rfl) (fun _ _ _ h => h) (Or.inl ⟨by rfl, ?_⟩) (by assumption) ?_
      rotate_left 1
      · intro w hSw
        try dsimp only at hSw
        go_simp
        try with_reducible rfl
      try simp only [Act.put, List.setIfInBounds_toArray, List.set_cons_zero, List.set_cons_succ]
      refine wpAnyH_take (i := 15) (v := ?_) rfl (by kernel_rfl) (by kernel_rfl) (by kernel_rfl) (fun _ _ _ h => h) (Or.inl ⟨by rfl, ?_⟩) (by assumption) ?_
      rotate_left 1
      · intro w hSw
        try dsimp only at hSw
        go_simp
        try with_reducible rfl
      try simp only [Act.put, List.setIfInBounds_toArray, List.set_cons_zero, List.set_cons_succ]
      refine wpAnyH_take (i := 16) (v := ?_) rfl (by kernel_rfl) (by kernel_rfl) (by kernel_rfl) (fun _ _ _ h => h) (Or.inl ⟨by rfl, ?_⟩) (by assumption) ?_
      rotate_left 1
      · intro w hSw
        try dsimp only at hSw
        go_simp
        try with_reducible rfl
      try simp only [Act.put, List.setIfInBounds_toArray, List.set_cons_zero, List.set_cons_succ]
      refine wpAnyH_take (i := 17) (v := ?_) rfl (by kernel_rfl) (by kernel_rfl) (by kernel_rfl) (fun _ _ _ h => h) (Or.inl ⟨by rfl, ?_⟩) (by assumption) ?_
      rotate_left 1
      · intro w hSw
        try dsimp only at hSw
        go_simp
        try with_reducible rfl
      try simp only [Act.put, List.setIfInBounds_toArray, List.set_cons_zero, List.set_cons_succ]
      refine wpAnyH_take (i := 18) (v := ?_) rfl (by kernel_rfl) (by kernel_rfl) (by kernel_rfl) (fun _ _ _ h => h) (Or.inl ⟨by rfl, ?_⟩) (by assumption) ?_
      rotate_left 1
      · intro w hSw
        try dsimp only at hSw
        go_simp
        try with_reducible rfl
      try simp only [Act.put, List.setIfInBounds_toArray, List.set_cons_zero, List.set_cons_succ]
      refine wpAnyH_take (i := 19) (v := ?_) rfl (by kernel_rfl) (by kernel_rfl) (by kernel_rfl) (fun _ _ _ h => h) (Or.inl ⟨by rfl, ?_⟩) (by assumption) ?_
      rotate_left 1
      · intro w hSw
        try dsimp only at hSw
        go_simp
        try with_reducible rfl
      try simp only [Act.put, List.setIfInBounds_toArray, List.set_cons_zero, List.set_cons_succ]
      refine wpAnyH_ready (rs := [11, 20]) (by kernel_rfl) (by simp) ?_
      refine AllReadyH.cons (o := _) rfl (fun K' hK => ?_) ?_
      · go_simp
        refine hK.out _ _ ?_ (fun hHeld => ?_)
        · exact ⟨hcp.c, hcq.c, e4.a, e4.b, e4.c, b3.c0, b3.c1, b3.c2⟩
        clear hK K'
        try simp only [Act.put, List.setIfInBounds_toArray, List.set_cons_zero, List.set_cons_succ]
        refine wpAnyH_ready (rs := [20]) (by kernel_rfl) (by simp) ?_
        refine AllReadyH.cons (o := _) rfl (fun K' hK => ?_) AllReadyH.nil
        go_simp
        refine (MultiplyN z z4 f v 1 1 _ HZ.out.num v4.num (by omega)).mono ?_
        rintro e wa ⟨t1, rfl, ht1, c1⟩
        clear e1a e1b e1c
        replace hH := hH.keep c1 (by simp)
        replace b3 := b3.keep c1 (by simp)
        replace hN := hN.keep c1 (by simp)
        replace e1 := e1.keep0 c1
        replace e4 := e4.keep0 c1
        replace hcp := hcp.keep0 c1
        replace hcq := hcq.keep0 c1
        replace hP := hP.keep0 c1
        replace hch := hch.then c1
        clear c1
        have s3 := hN.frozen (k * 3)
        have s4 := hN.frozen (k * 3 + 1)
        have s5 := hN.frozen (k * 3 + 2)
        have e1a := e1.a
        have e1b := e1.b
        have e1c := e1.c
        go_wp2_with fail
        refine hK.out _ _ ?_ (fun hHeld => ?_)
        · exact ⟨hcp.c, hcq.c, e4.a, e4.b, e4.c, b3.c0, b3.c1, b3.c2⟩
        clear hK K'
        try simp only [Act.put, List.setIfInBounds_toArray, List.set_cons_zero, List.set_cons_succ]
        refine wpAnyH_ready (rs := [21]) (by kernel_rfl) (by simp) ?_
        refine AllReadyH.cons (o := _) rfl (fun K' hK => ?_) AllReadyH.nil
        go_simp
        refine (AddN z0 t1 u (f * v) 1 (1 + 1) _ v1.num ht1.num (by omega)).mono ?_
        rintro e wb ⟨z2, rfl, hz2, c1⟩
        clear e1a e1b e1c
        replace hH := hH.keep c1 (by simp)
        replace b3 := b3.keep c1 (by simp)
        replace hN := hN.keep c1 (by simp)
        replace e1 := e1.keep0 c1
        replace e4 := e4.keep0 c1
        replace hcp := hcp.keep0 c1
        replace hcq := hcq.keep0 c1
        replace hP := hP.keep0 c1
        replace hch := hch.then c1
        clear c1
        have s3 := hN.frozen (k * 3)
        have s4 := hN.frozen (k * 3 + 1)
        have s5 := hN.frozen (k * 3 + 2)
        have e1a := e1.a
        have e1b := e1.b
        have e1c := e1.c
        go_wp2_with fail
        refine hK.out _ _ ?_ (fun hHeld => ?_)
        · exact ⟨hcp.c, hcq.c, e4.a, e4.b, e4.c, b3.c0, b3.c1, b3.c2⟩
        clear hK K'
        try simp only [Act.put, List.setIfInBounds_toArray, List.set_cons_zero, List.set_cons_succ]
        refine wpAnyH_take (i := 22) (v := ?_) rfl (by kernel_rfl) (by kernel_rfl) (by kernel_rfl) (fun _ _ _ h => h) (Or.inl ⟨by rfl, ?_⟩) (by assumption) ?_
        rotate_left 1
        · intro w hSw
          try dsimp only at hSw
          go_simp
          try with_reducible rfl
        try simp only [Act.put, List.setIfInBounds_toArray, List.set_cons_zero, List.set_cons_succ]
        refine wpAnyH_ready (rs := [23]) (by kernel_rfl) (by simp) ?_
        refine AllReadyH.cons (o := _) rfl (fun K' hK => ?_) AllReadyH.nil
        go_simp
        refine hK.out _ _ ?_ (fun hHeld => ?_)
        · exact ⟨(hcp.st hgi _ _ _).c, (hcq.st hgi _ _ _).c, (e4.st hri _ _ _).a, (e4.st hri _ _ _).b, (e4.st hri _ _ _).c, (b3.sto hbi _ _ _).c0, (b3.sto hbi _ _ _).c1, (b3.sto hbi _ _ _).c2⟩
        clear hK K'
        try simp only [Act.put, List.setIfInBounds_toArray, List.set_cons_zero, List.set_cons_succ]
        refine wpAnyH_done (by kernel_rfl) ?_ _
        have HNX := Lib.hid (nums_set (P := fun j z => Val z (mtxQ m L p j + f * mtxQ m L q j) 4) (z := z2) (by rw [HZL.out]; exact hkm) HVAL.out (by rw [HU.out, HVV.out]; exact hz2))
        have hgp := HGE.out p hpn
        go_wp2_with fail
        go_roundw
        case rel => exact ⟨k + 1, zs.set k z2, by omega, by go_num, by rw [List.length_set]; exact HZL.out, HNX.out, fun j hj => by rw [getD_setM zs q0 z2 (by rw [HZL.out]; omega), if_neg (by omega)]; exact HREST.out j (by omega), fun e => absurd e HPQ.out, hN.store (by rw [HZL.out]; omega) z2, b3.sto hbi _ _ _, hH.keep ((Chg.refl [h p] _).store3o (.inl (by simp)) _ _ _) (by simpa using hgi), hP.keep ((Chg.refl [h p] _).store3o (.inl (by simp)) _ _ _) (fun i hi hx => by simp; exact fun e => hx (HIJ.out _ _ hi hpn e)), hch.store3o (.inr hgp) _ _ _⟩
        case measure => simp [intOf]; omega
      · refine AllReadyH.cons (o := _) rfl (fun K' hK => ?_) AllReadyH.nil
        go_simp
        refine (MultiplyN z z4 f v 1 1 _ HZ.out.num v4.num (by omega)).mono ?_
        rintro e wa ⟨t1, rfl, ht1, c1⟩
        clear e1a e1b e1c
        replace hH := hH.keep c1 (by simp)
        replace b3 := b3.keep c1 (by simp)
        replace hN := hN.keep c1 (by simp)
        replace e1 := e1.keep0 c1
        replace e4 := e4.keep0 c1
        replace hcp := hcp.keep0 c1
        replace hcq := hcq.keep0 c1
        replace hP := hP.keep0 c1
        replace hch := hch.then c1
        clear c1
        have s3 := hN.frozen (k * 3)
        have s4 := hN.frozen (k * 3 + 1)
        have s5 := hN.frozen (k * 3 + 2)
        have e1a := e1.a
        have e1b := e1.b
        have e1c := e1.c
        go_wp2_with fail
        refine hK.out _ _ ?_ (fun hHeld => ?_)
        · exact ⟨hcp.c, hcq.c, e4.a, e4.b, e4.c, b3.c0, b3.c1, b3.c2⟩
        clear hK K'
        try simp only [Act.put, List.setIfInBounds_toArray, List.set_cons_zero, List.set_cons_succ]
        refine wpAnyH_ready (rs := [11]) (by kernel_rfl) (by simp) ?_
        refine AllReadyH.cons (o := _) rfl (fun K' hK => ?_) AllReadyH.nil
        go_simp
        refine hK.out _ _ ?_ (fun hHeld => ?_)
        · exact ⟨hcp.c, hcq.c, e4.a, e4.b, e4.c, b3.c0, b3.c1, b3.c2⟩
        clear hK K'
        try simp only [Act.put, List.setIfInBounds_toArray, List.set_cons_zero, List.set_cons_succ]
        refine wpAnyH_ready (rs := [21]) (by kernel_rfl) (by simp) ?_
        refine AllReadyH.cons (o := _) rfl (fun K' hK => ?_) AllReadyH.nil
        go_simp
        refine (AddN z0 t1 u (f * v) 1 (1 + 1) _ v1.num ht1.num (by omega)).mono ?_
        rintro e wb ⟨z2, rfl, hz2, c1⟩
        clear e1a e1b e1c
        replace hH := hH.keep c1 (by simp)
        replace b3 := b3.keep c1 (by simp)
        replace hN := hN.keep c1 (by simp)
        replace e1 := e1.keep0 c1
        replace e4 := e4.keep0 c1
        replace hcp := hcp.keep0 c1
        replace hcq := hcq.keep0 c1
        replace hP := hP.keep0 c1
        replace hch := hch.then c1
        clear c1
        have s3 := hN.frozen (k * 3)
        have s4 := hN.frozen (k * 3 + 1)
        have s5 := hN.frozen (k * 3 + 2)
        have e1a := e1.a
        have e1b := e1.b
        have e1c := e1.c
        go_wp2_with fail
        refine hK.out _ _ ?_ (fun hHeld => ?_)
        · exact ⟨hcp.c, hcq.c, e4.a, e4.b, e4.c, b3.c0, b3.c1, b3.c2⟩
        clear hK K'
        try simp only [Act.put, List.setIfInBounds_toArray, List.set_cons_zero, List.set_cons_succ]
        refine wpAnyH_take (i := 22) (v := ?_) rfl (by kernel_rfl) (by kernel_rfl) (by kernel_rfl) (fun _ _ _ h => h) (Or.inl ⟨by rfl, ?_⟩) (by assumption) ?_
        rotate_left 1
        · intro w hSw
          try dsimp only at hSw
          go_simp
          try with_reducible rfl
        try simp only [Act.put, List.setIfInBounds_toArray, List.set_cons_zero, List.set_cons_succ]
        refine wpAnyH_ready (rs := [23]) (by kernel_rfl) (by simp) ?_
        refine AllReadyH.cons (o := _) rfl (fun K' hK => ?_) AllReadyH.nil
        go_simp
        refine hK.out _ _ ?_ (fun hHeld => ?_)
        · exact ⟨(hcp.st hgi _ _ _).c, (hcq.st hgi _ _ _).c, (e4.st hri _ _ _).a, (e4.st hri _ _ _).b, (e4.st hri _ _ _).c, (b3.sto hbi _ _ _).c0, (b3.sto hbi _ _ _).c1, (b3.sto hbi _ _ _).c2⟩
        clear hK K'
        try simp only [Act.put, List.setIfInBounds_toArray, List.set_cons_zero, List.set_cons_succ]
        refine wpAnyH_done (by kernel_rfl) ?_ _
        have HNX := Lib.hid (nums_set (P := fun j z => Val z (mtxQ m L p j + f * mtxQ m L q j) 4) (z := z2) (by rw [HZL.out]; exact hkm) HVAL.out (by rw [HU.out, HVV.out]; exact hz2))
        have hgp := HGE.out p hpn
        go_wp2_with fail
        go_roundw
        case rel => exact ⟨k + 1, zs.set k z2, by omega, by go_num, by rw [List.length_set]; exact HZL.out, HNX.out, fun j hj => by rw [getD_setM zs q0 z2 (by rw [HZL.out]; omega), if_neg (by omega)]; exact HREST.out j (by omega), fun e => absurd e HPQ.out, hN.store (by rw [HZL.out]; omega) z2, b3.sto hbi _ _ _, hH.keep ((Chg.refl [h p] _).store3o (.inl (by simp)) _ _ _) (by simpa using hgi), hP.keep ((Chg.refl [h p] _).store3o (.inl (by simp)) _ _ _) (fun i hi hx => by simp; exact fun e => hx (HIJ.out _ _ hi hpn e)), hch.store3o (.inr hgp) _ _ _⟩
        case measure => simp [intOf]; omega
    · have hzr : Row1 zs (fun j => rowG (mtxQ m L) p q f p j) m 4 := ⟨HZL.out, fun j hj => by
        unfold rowG
        by_cases e : p = q
        · rw [if_pos e, HREST.out j (by rw [HK0.out e]; omega)]
          exact (R1.out.val j hj).mono (by omega)
        · rw [if_neg e]
          unfold addR
          rw [if_pos rfl]
          exact HVAL.out j (by have := fun hh => hkn ⟨hh, e⟩; omega)⟩
      have hVB2 : Vals (Mb.set p zs) (rowG (mtxQ m L) p q f) n m 4 := by
        have hrow : ∀ i, i < n → Row1 ((Mb.set p zs).getD i []) (fun j => rowG (mtxQ m L) p q f i j) m 4 := fun i hi => by
          rw [getD_setM Mb [] zs (by rw [HVB.out.len]; exact hpn)]
          by_cases e : i = p
          · rw [if_pos e, e]; exact hzr
          · rw [if_neg e]
            have : (fun j => rowG (mtxQ m L) p q f i j) = fun j => mtxQ m L i j := by
              funext j; unfold rowG; split
              · rfl
              · unfold addR; rw [if_neg e]
            rw [this]
            exact (HVB.out.at_ hi).mono (by omega)
        exact ⟨by rw [List.length_set]; exact HVB.out.len, fun i hi => (hrow i hi).len, fun i hi => (hrow i hi).val⟩
      have hDB : MutD wr gb cb (Mb.set p zs) h c2' n m := ⟨hH, ⟨fun i hi _ => by
        rw [getD_setM Mb [] zs (by rw [HVB.out.len]; exact hpn)]
        by_cases e : i = p
        · rw [if_pos e, e]; exact hN
        · rw [if_neg e]; exact hP.row i hi e⟩, HIJ.out, HOF.out⟩
      obtain ⟨Mb2, HMB2⟩ := name_it (Mb.set p zs)
      rw [HMB2.out] at hDB hVB2
      have HVB2 := Lib.hid hVB2
      have HDB := Lib.hid hDB
      have HCH := Lib.hid hch
      have hex : (k < m ∧ ((p : Int) != (q : Int)) = false ∧ ((p : Int) == (q : Int)) = true) ∨ (¬ k < m ∧ decide (k < m) = false ∧ decide ((k : Int) < (m : Int)) = false) := by
        by_cases e : k < m
        · have e2 : p = q := Classical.byContradiction fun h => hkn ⟨e, h⟩
          exact .inl ⟨e, by rw [e2]; simp, by rw [e2]; simp⟩
        · exact .inr ⟨e, decide_eq_false e, decide_eq_false (by omega)⟩
      have HECH := Lib.hid (ech_unique (f := swp (rowG (mtxQ m L) p q f) 0 q) (g := mtxQ m L) (n := n) (m := m) (fun x => (swp_null (by omega) hqn).trans (rowG_null hpn hqn)))
      clear hzr hVB2 hDB hH hP hN hch hkn b3 HK0 HREST HVAL
      rcases hex with ⟨d1, d2, d3⟩ | ⟨d1, d2, d3⟩
      all_goals
        go_wp2_with fail
        go_cut [16] (fun cv wx => ∃ Mc2, cv = .slice (some ⟨gb, 0, none⟩) n cb ∧ Mtx wx (some ⟨gb, 0, none⟩) Mc2 ∧ Vals Mc2 (swp (rowG (mtxQ m L) p q f) 0 q) n m 4 ∧ Mtx wx (some ⟨ga, 0, none⟩) M ∧ Chg [] w1 wx)
        case first =>
          have hD := HDB.out
          have hcel0 := hD.cel (i := 0) (by omega)
          have hcelq := hD.cel hqn
          have fz0 := hD.hdr.frozen 0
          have fzq := hD.hdr.frozen q
          have hH1 := hD.hdr.store 0 (.slice (some ⟨h q, 0, none⟩) m (c2' q))
          have hH2 := hD.hdr.store q (.slice (some ⟨h 0, 0, none⟩) m (c2' 0))
          have hs1 := hH1.cell (j := q) (by rw [List.length_set, hdrs_length]; exact hqn)
          have hs2 := hH2.cell (j := 0) (by rw [List.length_set, hdrs_length]; omega)
          have ft1 := hH1.frozen q
          have ft2 := hH2.frozen 0
          obtain ⟨vq, HVQ⟩ := name_it (((hdrs h c2' m n).set 0 (.slice (some ⟨h q, 0, none⟩) m (c2' q))).getD q (.bool false))
          obtain ⟨v0, HV0⟩ := name_it (((hdrs h c2' m n).set q (.slice (some ⟨h 0, 0, none⟩) m (c2' 0))).getD 0 (.bool false))
          rw [HVQ.out] at hs1
          rw [HV0.out] at hs2
          have hH := (hD.hdr.store 0 (.slice (some ⟨h q, 0, none⟩) m (c2' q))).store q (.slice (some ⟨h 0, 0, none⟩) m (c2' 0))
          rw [hdrs_set, hdrs_set] at hH
          have cs : Chg [gb] wr ((wr.setCell ⟨gb, 0, none⟩ (.slice (some ⟨h q, 0, none⟩) m (c2' q))).setCell ⟨gb, q, none⟩ (.slice (some ⟨h 0, 0, none⟩) m (c2' 0))) := ((Chg.refl [gb] wr).setCell (.inl (by simp)) _).setCell (.inl (by simp)) _
          have hDC := MutD.swapped (h := h) (c := c2') (r := q) (p := 0) (zs := Mb2.getD 0 []) hH ⟨fun i hi _ => (hD.nums hi).keep cs (by simpa using hD.off i hi)⟩ ((hD.nums (by omega)).keep cs (by simpa using hD.off 0 (by omega))) hD.inj hD.off hqn (by omega) HVB2.out.len
          have hVC := HVB2.out.swap (r := 0) (p := q) (by omega) hqn
          have HMC := Lib.hid (hDC.mtx hVC.len hVC.row)
          have HVC := Lib.hid hVC
          have cf := HCH.out.fresh cs HGB.out
          have HMA := Lib.hid (HM.out.keep0 cf)
          have HCF := Lib.hid cf
          have i1 : (0 : Int) < (n : Int) := by omega
          clear hDC hVC cs cf hH hD hH1 hH2
          have hcel0c := hcel0.c
          have hcelqc := hcelq.c
          go_region
          go_wp2_with fail
          go_meet
          exact ⟨_, rfl, HMC.out.keep0 ((Chg.refl [] _).drew), HVC.out, HMA.out.keep0 ((Chg.refl [] _).drew), HCF.out.drew⟩
        case rest =>
          obtain ⟨Mc2, rfl, hMC, hVC, hMA, hch⟩ := hcut
          have HVC := Lib.hid hVC
          clear hVC
          go_wp2_with fail
          refine (reduce_vals M (mtxQ m L) ga ca n m 1 _ HV.out (by omega) hn4 (by omega) hm4 (by omega) (by omega) hMA).mono ?_
          rintro e w6 ⟨gf, gp, cq, rfl, hx1, hp1, c6⟩
          replace hMC := hMC.keep0 c6
          replace hch := hch.then c6
          clear c6 hMA
          go_wp2_with fail
          refine (reduce_vals Mc2 (swp (rowG (mtxQ m L) p q f) 0 q) gb cb n m 4 _ HVC.out (by omega) hn4 (by omega) hm4 (by omega) (by omega) hMC).mono ?_
          rintro e w7 ⟨gf2, gp2, cq2, rfl, hx2, hp2, c6⟩
          rw [HECH.out.1] at hp2
          rw [HECH.out.1]
          rw [canM_congr HECH.out.2] at hx2
          replace hx1 := hx1.keep0 c6
          replace hp1 := hp1.keep0 c6
          replace hch := hch.then c6
          clear c6 hMC
          obtain ⟨pv, HPV⟩ := name_it (ech (mtxQ m L) n m).2
          have hple := (ech_holds (mtxQ m L) n m).len
          rw [HPV.out] at hp1 hp2 hple
          rw [HPV.out]
          obtain ⟨ff, HFF⟩ := name_it (ech (mtxQ m L) n m).1
          rw [HFF.out] at hx1 hx2
          obtain ⟨rr, HRR⟩ := name_it pv.length
          rw [HRR.out] at hple
          rw [HRR.out]
          go_wp2_with fail
          refine (awake3_any _).mono ?_
          rintro e w8 ⟨rfl, c6⟩
          replace hx1 := hx1.keep0 c6
          replace hp1 := hp1.keep0 c6
          replace hx2 := hx2.keep0 c6
          replace hp2 := hp2.keep0 c6
          replace hch := hch.then c6
          clear c6
          go_wp2_with fail
          refine (sameRows_n (canM ff n m) n m _ _ _ _ _ (canM_length ff n m) (fun i hi => by rw [canM_get ff m hi, canL_length]) (by omega) (by omega) hx1 hx2).mono ?_
          rintro e w9 ⟨rfl, c6⟩
          replace hp1 := hp1.keep0 c6
          replace hp2 := hp2.keep0 c6
          replace hch := hch.then c6
          clear c6 hx1 hx2
          go_wp2_with fail
          refine (sameInts_n pv rr _ _ _ _ _ HRR.out (by omega) hp1 hp2).mono ?_
          rintro e w10 ⟨rfl, c6⟩
          replace hch := hch.then c6
          go_wp2_with fail
          go_ret
          exact ⟨ret_eq (by simp), HCH1.out.then hch⟩
end Go.Proofs.Ytpaochhaenehmaa
