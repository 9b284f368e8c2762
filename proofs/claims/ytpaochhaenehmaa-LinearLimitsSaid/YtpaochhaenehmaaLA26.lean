/-
  Law 3: LinearLimits.
-/
import Derived.Test.YtpaochhaenehmaaLX28
namespace Go.Proofs.Ytpaochhaenehmaa
open Go.RowKit Nd

theorem ech_zero {f : Nat → Nat → Rat} {n : Nat} (h : ∀ i j, f i j = 0) : ∀ c, ech f n c = (f, [])
  | 0 => rfl
  | c + 1 => by
    have hp : pivR f n 0 c = n := pivR_none (Nat.zero_le _) (fun i _ _ => h i c)
    simp only [ech, ech_zero h c, List.length_nil]
    rw [hp, if_neg (Nat.lt_irrefl _)]
theorem rat_q0 : ratOf q0 = 0 := Val_zero.num.rat
/-- A matrix of zeros. -/
structure Zm (M : List (List Q3)) (n m : Nat) : Prop where
  len : M.length = n
  row : ∀ i, i < n → M.getD i [] = List.replicate m q0
theorem Zm.el {M : List (List Q3)} {n m : Nat} (h : Zm M n m) (i j : Nat) : (M.getD i []).getD j q0 = q0 := by
  by_cases hi : i < n
  · rw [h.row i hi, List.getD_eq_getElem?_getD, List.getElem?_replicate]; split <;> rfl
  · have e : M.getD i [] = [] := by rw [List.getD_eq_getElem?_getD, List.getElem?_eq_none (by rw [h.len]; omega)]; rfl
    rw [e]; rfl
theorem Zm.zero {M : List (List Q3)} {n m : Nat} (h : Zm M n m) (i j : Nat) : matQ M i j = 0 := by unfold matQ; rw [h.el i j]; exact rat_q0
theorem fits_q0 : fits q0 1 := Val_zero.num.fit
theorem Zm.fit {M : List (List Q3)} {n m : Nat} (h : Zm M n m) : ∀ i, i < M.length → ∀ j, j < (M.getD 0 []).length → fits ((M.getD i []).getD j q0) 1 := fun i _ j _ => by rw [h.el i j]; exact fits_q0
theorem Zm.cols {M : List (List Q3)} {n m : Nat} (h : Zm M n m) {i : Nat} (hi : i < n) : (M.getD i []).length = m := by rw [h.row i hi, List.length_replicate]
theorem rep_get (k j : Nat) : (List.replicate k q0).getD j q0 = q0 := by rw [List.getD_eq_getElem?_getD, List.getElem?_replicate]; split <;> rfl
/-- The errors of dimensions: of a matrix, of a square one, of a system. -/
structure Lim (M : List (List Q3)) (n m e sq sg : Nat) : Prop where
  z : Zm M n m
  he : shapeE M = e
  hq : squareE M = sq
  hc : (e = 0 ∧ 0 < n ∧ n ≤ 16 ∧ 0 < m ∧ m ≤ 16 ∧ (if n = m then sq = 0 ∧ sg = 5 else sq = 4 ∧ sg = 4)) ∨ (e ≠ 0 ∧ sq = e ∧ sg = e)
theorem Lim.bad {M : List (List Q3)} {n m e : Nat} (hz : Zm M n m) (h : shapeE M = e) (h0 : e ≠ 0) : Lim M n m e e e :=
  ⟨hz, h, by rw [squareE_bad (by rw [h]; exact h0), h], .inr ⟨h0, rfl, rfl⟩⟩
theorem Zm.shape {M : List (List Q3)} {n m : Nat} (h : Zm M n m) (hn0 : 0 < n) (hn : n ≤ 16) (hm0 : 0 < m) (hm : m ≤ 16) : shapeE M = 0 :=
  shapeE_good (by rw [h.len]; omega) (by rw [h.cols hn0]; omega) (fun i hi => by rw [h.cols hn0, h.cols (by rw [← h.len]; exact hi)]) (by rw [h.len]; exact hn) (by rw [h.cols hn0]; exact hm)
theorem Lim.wide {M : List (List Q3)} {n m : Nat} (h : Zm M n m) (hn0 : 0 < n) (hn : n ≤ 16) (hm0 : 0 < m) (hm : m ≤ 16) (hne : n ≠ m) : Lim M n m 0 4 4 :=
  ⟨h, h.shape hn0 hn hm0 hm, squareE_four (h.shape hn0 hn hm0 hm) (by rw [h.len, h.cols hn0]; exact hne), .inl ⟨rfl, hn0, hn, hm0, hm, by rw [if_neg hne]; exact ⟨rfl, rfl⟩⟩⟩
theorem Lim.square {M : List (List Q3)} {n : Nat} (h : Zm M n n) (hn0 : 0 < n) (hn : n ≤ 16) : Lim M n n 0 0 5 :=
  ⟨h, h.shape hn0 hn hn0 hn, squareE_zero (h.shape hn0 hn hn0 hn) (by rw [h.len, h.cols hn0]), .inl ⟨rfl, hn0, hn, hn0, hn, by rw [if_pos rfl]; exact ⟨rfl, rfl⟩⟩⟩
section
variable {M : List (List Q3)} {n m e sq sg : Nat} (h : Lim M n m e sq sg) (hn : n ≤ 100)
include h hn
theorem lim_reduce (A : Option Addr) (cap : Nat) (w : World) (hx : Mtx w A M) :
    Calls Try.prog 10 #[.slice A n cap] w fun x w' => ∃ a b, x = .returned (.tuple #[a, b, .int .i64 (e : Int)]) ∧ Chg [] w w' := by
  rcases h.hc with ⟨h0, h1⟩ | ⟨h0, h1⟩
  · have := Reduce_ok M A cap 1 w (by rw [h.z.len]; omega) hx (by rw [h.he, h0]) (by omega) (by omega) h.z.fit
    rw [h.z.len] at this
    rw [h0]
    exact this.mono fun _ _ ⟨gf, gp, cp, Mf, he, _, hc⟩ => ⟨_, _, he, hc⟩
  · have := Reduce_bad M A cap w (by rw [h.z.len]; omega) hx (by rw [h.he]; exact h0)
    rw [h.z.len, h.he] at this
    exact this.mono fun _ _ ⟨he, hc⟩ => ⟨_, _, he, hc⟩
theorem lim_rank (A : Option Addr) (cap : Nat) (w : World) (hx : Mtx w A M) :
    Calls Try.prog 11 #[.slice A n cap] w fun x w' => x = .returned (.tuple #[.int .i64 0, .int .i64 (e : Int)]) ∧ Chg [] w w' := by
  rcases h.hc with ⟨h0, h1⟩ | ⟨h0, h1⟩
  · have := Rank_ok M A cap 1 w (by rw [h.z.len]; omega) hx (by rw [h.he, h0]) (by omega) (by omega) h.z.fit
    rw [ech_zero h.z.zero, h.z.len] at this
    rw [h0]
    exact this
  · have := Rank_bad M A cap w (by rw [h.z.len]; omega) hx (by rw [h.he]; exact h0)
    rw [h.z.len, h.he] at this
    exact this
theorem lim_kernel (A : Option Addr) (cap : Nat) (w : World) (hx : Mtx w A M) :
    Calls Try.prog 12 #[.slice A n cap] w fun x w' => ∃ v, x = .returned (.tuple #[v, .int .i64 (e : Int)]) ∧ Chg [] w w' := by
  rcases h.hc with ⟨h0, h1⟩ | ⟨h0, h1⟩
  · have := Kernel_ok M A cap 1 w (by rw [h.z.len]; omega) hx (by rw [h.he, h0]) (by omega) (by omega) h.z.fit
    rw [h.z.len] at this
    rw [h0]
    exact this.mono fun _ _ ⟨v, KM, he, _, _, hc⟩ => ⟨_, he, hc⟩
  · have := Kernel_bad M A cap w (by rw [h.z.len]; omega) hx (by rw [h.he]; exact h0)
    rw [h.z.len, h.he] at this
    exact this.mono fun _ _ ⟨he, hc⟩ => ⟨_, he, hc⟩
theorem lim_det (A : Option Addr) (cap : Nat) (w : World) (hx : Mtx w A M) :
    Calls Try.prog 8 #[.slice A n cap] w fun x w' => ∃ z : Q3, x = .returned (.tuple #[.agg #[.bool z.neg, .string z.num, .string z.den], .int .i64 (sq : Int)]) ∧ Chg [] w w' := by
  by_cases h0 : sq = 0
  · have := Determinant_zero M A cap 1 w hx (by rw [h.hq, h0]) h.z.zero (by omega) (by omega) h.z.fit
    rw [h.z.len] at this
    rw [h0]
    exact this
  · have := Determinant_bad M A cap w (by rw [h.z.len]; omega) hx (by rw [h.hq]; exact h0)
    rw [h.z.len, h.hq] at this
    exact this.mono fun _ _ ⟨he, hc⟩ => ⟨q0, he, hc⟩
theorem lim_solve (A B : Option Addr) (cap cb : Nat) (w : World) (hx : Mtx w A M) (hb : Rds w B (List.replicate n q0)) :
    Calls Try.prog 13 #[.slice A n cap, .slice B n cb] w fun x w' => ∃ v, x = .returned (.tuple #[v, .int .i64 (sg : Int)]) ∧ Chg [] w w' := by
  by_cases h0 : sq = 0
  · have hsg : sg = 5 ∧ 0 < n := by
      rcases h.hc with ⟨_, h2, _, _, _, h3⟩ | ⟨h1, h2, _⟩
      · split at h3
        · exact ⟨h3.2, h2⟩
        · omega
      · omega
    have haug : ∀ i j, augQ M (List.replicate n q0) M.length i j = 0 := fun i j => by
      unfold augQ; split
      · exact h.z.zero i j
      · rw [rep_get]; exact rat_q0
    have := Solve_sing M (List.replicate n q0) A B cap cb 1 w hx hb (by rw [h.hq, h0]) (by rw [List.length_replicate, h.z.len]) (by omega) (by omega) h.z.fit (fun j _ => by rw [rep_get]; exact fits_q0) (by rw [ech_zero haug, h.z.len]; exact hsg.2)
    rw [h.z.len, List.length_replicate] at this
    rw [hsg.1]
    exact this.mono fun _ _ ⟨he, hc⟩ => ⟨_, he, hc⟩
  · have hsg : sg = sq := by
      rcases h.hc with ⟨_, _, _, _, _, h3⟩ | ⟨_, h1, h2⟩
      · split at h3 <;> omega
      · omega
    have := Solve_bad M (List.replicate n q0) A B cap cb w (by rw [h.z.len]; omega) hx (by rw [h.hq]; exact h0)
    rw [h.z.len, List.length_replicate, h.hq] at this
    rw [hsg]
    exact this.mono fun _ _ ⟨he, hc⟩ => ⟨_, he, hc⟩
theorem lim_apply (A B : Option Addr) (cap cb : Nat) (w : World) (hx : Mtx w A M) (hb : Rds w B (List.replicate m q0)) :
    Calls Try.prog 14 #[.slice A n cap, .slice B m cb] w fun x w' => ∃ v, x = .returned (.tuple #[v, .int .i64 (e : Int)]) ∧ Chg [] w w' := by
  rcases h.hc with ⟨h0, h1, _⟩ | ⟨h0, h1⟩
  · have := Apply_ok M (List.replicate m q0) A B cap cb 1 w (by rw [h.z.len]; omega) hx hb (by rw [h.he, h0]) (by rw [List.length_replicate, h.z.cols h1]) (by omega) (by omega) h.z.fit (fun j _ => by rw [rep_get]; exact fits_q0)
    rw [h.z.len, List.length_replicate] at this
    rw [h0]
    exact this.mono fun _ _ ⟨g, zs, he, _, _, _, hc⟩ => ⟨_, he, hc⟩
  · have := Apply_bad M (List.replicate m q0) A B cap cb w (by rw [h.z.len]; omega) hx (by rw [h.he]; exact h0)
    rw [h.z.len, List.length_replicate, h.he] at this
    exact this.mono fun _ _ ⟨he, hc⟩ => ⟨_, he, hc⟩
end

theorem snoc_rows {M : List (List Q3)} {m i : Nat} (hl : M.length = i) (h : ∀ t, t < i → M.getD t [] = List.replicate m q0) : ∀ t, t < i + 1 → (M ++ [List.replicate m q0]).getD t [] = List.replicate m q0 := fun t ht => by
  rw [getD_snocM, hl]
  by_cases e : t = i
  · rw [if_pos e]
  · rw [if_neg e]; exact h t (by omega)
set_option maxRecDepth 20000 in
set_option maxHeartbeats 8000000 in
theorem llimits_any (r c : Int) (w : World) (hr : 0 ≤ r ∧ r ≤ 255) (hc : 0 ≤ c ∧ c ≤ 255) :
    Calls Try.prog 4 #[.int .u8 r, .int .u8 c] w fun e w' => e = .returned (.bool true) ∧ Chg [] w w' := by
  obtain ⟨r1, r2⟩ := hr
  obtain ⟨r3, r4⟩ := hc
  obtain ⟨n, Hn⟩ : ∃ n : Nat, Hid (r % 20 = (n : Int)) := ⟨(r % 20).toNat, Lib.hid (by omega)⟩
  obtain ⟨m, Hm⟩ : ∃ m : Nat, Hid (c % 20 = (m : Int)) := ⟨(c % 20).toNat, Lib.hid (by omega)⟩
  have hn19 : n ≤ 19 := by have := Hn.out; omega
  have hm19 : m ≤ 19 := by have := Hm.out; omega
  have hch : Chg [] w w := Chg.refl _ _
  have hn1 := Hn.out
  have hm1 := Hm.out
  go_enter Try.func4, Try.ntmps4
  go_wp2_with fail
  clear hn1 hm1
  go_loopw [7, 8] (fun av iv wr => ∃ (i : Nat) (M : List (List Q3)), i ≤ n ∧ iv = .int .i64 i ∧ MutV wr [] av M ∧ M.length = i ∧ (∀ t, t < i → M.getD t [] = List.replicate m q0) ∧ (∀ x, x ∈ av.ownBlock.toList → w.heap.size ≤ x) ∧ Chg [] w wr) (fun _ iv _ => n - (intOf iv).toNat)
  case atStart => exact ⟨0, [], Nat.zero_le _, rfl, MutV.nil _ _, rfl, fun t h => absurd h (by omega), by simp [Value.ownBlock], hch⟩
  case round =>
    clear hch
    obtain ⟨i, M, hi, rfl, hmv, hml, hrows, hblk, hch⟩ := hrel
    have HML := Lib.hid hml
    have HRO := Lib.hid hrows
    have HBK := Lib.hid hblk
    have HMV := Lib.hid hmv
    clear hml hrows hblk hmv
    by_cases hlt : i < n
    · have HBLT := Lib.hid HMV.out.blt
      go_wp2_with (refine wpList_make3 _ rfl (.tmp 37) (.tmp 37) rfl (m : Int) (m : Int) m rfl rfl rfl rfl (by omega) ?_)
      intro w3 hN c1
      have hcl : (w3.alloc (.cells #[.slice (some ⟨wr.heap.size, 0, none⟩) m m] 33)).cell? ⟨w3.heap.size, 0, none⟩ = some (.slice (some ⟨wr.heap.size, 0, none⟩) m m) := by simp
      have hzr := hN.rds.keep0 ((Chg.refl [] w3).alloc (.cells #[.slice (some ⟨wr.heap.size, 0, none⟩) m m] 33))
      have hown := (HMV.out.keep0 c1).keep0 ((Chg.refl [] w3).alloc (.cells #[.slice (some ⟨wr.heap.size, 0, none⟩) m m] 33))
      have hoff : Off (u7.ownBlock.toList ++ []) (some ⟨wr.heap.size, 0, none⟩) := by
        intro a ha hm
        cases ha
        rw [List.append_nil] at hm
        have := HBLT.out _ hm
        simp only at this
        omega
      have hsz := c1.size
      go_wp2_with (at_builtin; refine wpList_appendM _ rfl (.tmp 36) (.tmp 39) rfl [] _ M rfl hown ⟨w3.heap.size, 0, none⟩ 1 (some ⟨wr.heap.size, 0, none⟩) m m (List.replicate m q0) rfl hcl (List.length_replicate ..) (Nat.le_refl _) (by omega) hzr (fun _ => hoff) (by rw [HML.out]; omega) ?_)
      intro v1 w4 hv1 cv1 hb1
      have HV1 := Lib.hid hv1
      have HB1 : Hid (∀ x, x ∈ v1.ownBlock.toList → w.heap.size ≤ x) := Lib.hid fun y hy => by
        rcases hb1 with h | h
        · rw [h] at hy; exact HBK.out y hy
        · rw [h] at hy; simp at hy; have := hch.size; omega
      have HL1 : Hid ((M ++ [List.replicate m q0]).length = i + 1) := Lib.hid (by rw [List.length_append, HML.out]; rfl)
      have HR1 := Lib.hid (snoc_rows HML.out HRO.out)
      have hch4 : Chg [] w w4 := ((hch.then c1).alloc _).trans cv1 (fun y hy => .inr (HBK.out y hy))
      clear hch cv1 hb1 hv1 hown hzr hoff hcl c1 hN
      go_wp2_with fail
      go_roundw
      case rel => exact ⟨i + 1, _, by omega, by go_num, HV1.out, HL1.out, HR1.out, HB1.out, hch4⟩
      case measure => simp [intOf]; omega
    · obtain rfl : n = i := by omega
      have hz : Zm M n m := ⟨HML.out, HRO.out⟩
      obtain ⟨A, cap, rfl, _, _, hM⟩ := HMV.out.mtx
      rw [HML.out]
      have HX := Lib.hid hM
      have hcase : (n = 0 ∧ ∃ e, e = 4 ∧ Lim M n m e e e) ∨ (n ≠ 0 ∧ m = 0 ∧ Lim M n m 4 4 4) ∨ (n ≠ 0 ∧ m ≠ 0 ∧ 16 < n ∧ Lim M n m 2 2 2) ∨ (n ≠ 0 ∧ m ≠ 0 ∧ ¬ 16 < n ∧ 16 < m ∧ Lim M n m 2 2 2) ∨ (n ≠ 0 ∧ m ≠ 0 ∧ ¬ 16 < n ∧ ¬ 16 < m ∧ n ≠ m ∧ Lim M n m 0 4 4) ∨ (n ≠ 0 ∧ m ≠ 0 ∧ ¬ 16 < n ∧ ¬ 16 < m ∧ n = m ∧ Lim M n m 0 0 5) := by
        by_cases h0 : n = 0
        · exact .inl ⟨h0, 4, rfl, Lim.bad hz (shapeE_none (by rw [hz.len]; exact h0)) (by omega)⟩
        · by_cases h1 : m = 0
          · exact .inr (.inl ⟨h0, h1, Lim.bad hz (shapeE_zero (by rw [hz.cols (by omega)]; exact h1)) (by omega)⟩)
          · by_cases h2 : 16 < n
            · exact .inr (.inr (.inl ⟨h0, h1, h2, Lim.bad hz (shapeE_long (by rw [hz.len]; exact h0) (by rw [hz.cols (by omega)]; exact h1) (fun i hi => (hz.cols (by rw [← hz.len]; exact hi)).trans (hz.cols (i := 0) (by omega)).symm) (.inl (by rw [hz.len]; exact h2))) (by omega)⟩))
            · by_cases h3 : 16 < m
              · exact .inr (.inr (.inr (.inl ⟨h0, h1, h2, h3, Lim.bad hz (shapeE_long (by rw [hz.len]; exact h0) (by rw [hz.cols (by omega)]; exact h1) (fun i hi => (hz.cols (by rw [← hz.len]; exact hi)).trans (hz.cols (i := 0) (by omega)).symm) (.inr (by rw [hz.cols (by omega)]; exact h3))) (by omega)⟩)))
              · by_cases h4 : n = m
                · subst h4
                  exact .inr (.inr (.inr (.inr (.inr ⟨h0, h1, h2, h3, rfl, Lim.square hz (by omega) (by omega)⟩))))
                · exact .inr (.inr (.inr (.inr (.inl ⟨h0, h1, h2, h3, h4, Lim.wide hz (by omega) (by omega) (by omega) (by omega) h4⟩))))
      clear hz
      rcases hcase with ⟨h0, e, he, hlim⟩ | ⟨h0, h1, hlim⟩ | ⟨h0, h1, h2, hlim⟩ | ⟨h0, h1, h2, h3, hlim⟩ | ⟨h0, h1, h2, h3, h4, hlim⟩ | ⟨h0, h1, h2, h3, h4, hlim⟩
      case inl =>
        subst he
        subst h0
        have HLIM := Lib.hid hlim
        clear hlim HML HRO HMV HBK hM
        go_wp2_with fail
        refine (lim_reduce HLIM.out (by omega) A cap _ HX.out).mono ?_
        rintro e w1 ⟨a1, a2, rfl, c1⟩
        have hx := HX.out.keep0 c1
        replace hch := hch.then c1
        clear c1
        go_wp2_with fail
        refine (lim_rank HLIM.out (by omega) A cap _ hx).mono ?_
        rintro e w2 ⟨rfl, c1⟩
        replace hx := hx.keep0 c1
        replace hch := hch.then c1
        clear c1
        go_wp2_with fail
        refine (lim_kernel HLIM.out (by omega) A cap _ hx).mono ?_
        rintro e w3 ⟨v3, rfl, c1⟩
        replace hx := hx.keep0 c1
        replace hch := hch.then c1
        clear c1
        go_wp2_with fail
        refine (lim_det HLIM.out (by omega) A cap _ hx).mono ?_
        rintro e w4 ⟨z4, rfl, c1⟩
        replace hx := hx.keep0 c1
        replace hch := hch.then c1
        clear c1
        have c2 : Chg [] w4 (w4.alloc (.cells #[.bool z4.neg, .string z4.num, .string z4.den] 26)) := (Chg.refl _ _).alloc _
        replace hx := hx.keep0 c2
        replace hch := hch.then c2
        clear c2
        go_wp2_with (refine wpList_make3 _ rfl (.tmp 89) (.tmp 89) rfl ((0 : Nat) : Int) ((0 : Nat) : Int) 0 rfl rfl rfl rfl (by omega) ?_)
        intro w5 hN c1
        replace hx := hx.keep0 c1
        replace hch := hch.then c1
        clear c1
        have hr := hN.rds
        go_wp2_with fail
        refine (lim_solve HLIM.out (by omega) A _ cap 0 _ hx hr).mono ?_
        rintro e w6 ⟨v6, rfl, c1⟩
        replace hx := hx.keep0 c1
        replace hch := hch.then c1
        clear c1 hr hN
        go_wp2_with (refine wpList_make3 _ rfl (.tmp 96) (.tmp 96) rfl ((m : Nat) : Int) ((m : Nat) : Int) m rfl rfl rfl rfl (by omega) ?_)
        intro w7 hN c1
        replace hx := hx.keep0 c1
        replace hch := hch.then c1
        clear c1
        have hr := hN.rds
        go_wp2_with fail
        refine (lim_apply HLIM.out (by omega) A _ cap m _ hx hr).mono ?_
        rintro e w8 ⟨v8, rfl, c1⟩
        replace hch := hch.then c1
        clear c1 hr hN hx
        go_wp2_with fail
        refine (awake3_any _).mono ?_
        rintro e w9 ⟨rfl, c1⟩
        replace hch := hch.then c1
        clear c1
        go_wp2_with fail
        go_ret
        exact ⟨rfl, hch⟩
      case inr.inl =>
        subst h1
        have d1 : ((n : Int) == 0) = false := by simp; omega
        have HLIM := Lib.hid hlim
        clear hlim HML HRO HMV HBK hM
        go_wp2_with fail
        refine (lim_reduce HLIM.out (by omega) A cap _ HX.out).mono ?_
        rintro e w1 ⟨a1, a2, rfl, c1⟩
        have hx := HX.out.keep0 c1
        replace hch := hch.then c1
        clear c1
        go_wp2_with fail
        refine (lim_rank HLIM.out (by omega) A cap _ hx).mono ?_
        rintro e w2 ⟨rfl, c1⟩
        replace hx := hx.keep0 c1
        replace hch := hch.then c1
        clear c1
        go_wp2_with fail
        refine (lim_kernel HLIM.out (by omega) A cap _ hx).mono ?_
        rintro e w3 ⟨v3, rfl, c1⟩
        replace hx := hx.keep0 c1
        replace hch := hch.then c1
        clear c1
        go_wp2_with fail
        refine (lim_det HLIM.out (by omega) A cap _ hx).mono ?_
        rintro e w4 ⟨z4, rfl, c1⟩
        replace hx := hx.keep0 c1
        replace hch := hch.then c1
        clear c1
        have c2 : Chg [] w4 (w4.alloc (.cells #[.bool z4.neg, .string z4.num, .string z4.den] 26)) := (Chg.refl _ _).alloc _
        replace hx := hx.keep0 c2
        replace hch := hch.then c2
        clear c2
        go_wp2_with (refine wpList_make3 _ rfl (.tmp 89) (.tmp 89) rfl ((n : Nat) : Int) ((n : Nat) : Int) n rfl rfl rfl rfl (by omega) ?_)
        intro w5 hN c1
        replace hx := hx.keep0 c1
        replace hch := hch.then c1
        clear c1
        have hr := hN.rds
        go_wp2_with fail
        refine (lim_solve HLIM.out (by omega) A _ cap n _ hx hr).mono ?_
        rintro e w6 ⟨v6, rfl, c1⟩
        replace hx := hx.keep0 c1
        replace hch := hch.then c1
        clear c1 hr hN
        go_wp2_with (refine wpList_make3 _ rfl (.tmp 96) (.tmp 96) rfl ((0 : Nat) : Int) ((0 : Nat) : Int) 0 rfl rfl rfl rfl (by omega) ?_)
        intro w7 hN c1
        replace hx := hx.keep0 c1
        replace hch := hch.then c1
        clear c1
        have hr := hN.rds
        go_wp2_with fail
        refine (lim_apply HLIM.out (by omega) A _ cap 0 _ hx hr).mono ?_
        rintro e w8 ⟨v8, rfl, c1⟩
        replace hch := hch.then c1
        clear c1 hr hN hx
        go_wp2_with fail
        refine (awake3_any _).mono ?_
        rintro e w9 ⟨rfl, c1⟩
        replace hch := hch.then c1
        clear c1
        go_wp2_with fail
        go_ret
        exact ⟨rfl, hch⟩
      case inr.inr.inl =>
        have d1 : ((n : Int) == 0) = false := by simp; omega
        have d2 : ((m : Int) == 0) = false := by simp; omega
        have d3 : decide ((16 : Int) < (n : Int)) = true := decide_eq_true (by omega)
        have d3n : decide (16 < n) = true := decide_eq_true (by omega)
        have HLIM := Lib.hid hlim
        clear hlim HML HRO HMV HBK hM
        go_wp2_with fail
        refine (lim_reduce HLIM.out (by omega) A cap _ HX.out).mono ?_
        rintro e w1 ⟨a1, a2, rfl, c1⟩
        have hx := HX.out.keep0 c1
        replace hch := hch.then c1
        clear c1
        go_wp2_with fail
        refine (lim_rank HLIM.out (by omega) A cap _ hx).mono ?_
        rintro e w2 ⟨rfl, c1⟩
        replace hx := hx.keep0 c1
        replace hch := hch.then c1
        clear c1
        go_wp2_with fail
        refine (lim_kernel HLIM.out (by omega) A cap _ hx).mono ?_
        rintro e w3 ⟨v3, rfl, c1⟩
        replace hx := hx.keep0 c1
        replace hch := hch.then c1
        clear c1
        go_wp2_with fail
        refine (lim_det HLIM.out (by omega) A cap _ hx).mono ?_
        rintro e w4 ⟨z4, rfl, c1⟩
        replace hx := hx.keep0 c1
        replace hch := hch.then c1
        clear c1
        have c2 : Chg [] w4 (w4.alloc (.cells #[.bool z4.neg, .string z4.num, .string z4.den] 26)) := (Chg.refl _ _).alloc _
        replace hx := hx.keep0 c2
        replace hch := hch.then c2
        clear c2
        go_wp2_with (refine wpList_make3 _ rfl (.tmp 89) (.tmp 89) rfl ((n : Nat) : Int) ((n : Nat) : Int) n rfl rfl rfl rfl (by omega) ?_)
        intro w5 hN c1
        replace hx := hx.keep0 c1
        replace hch := hch.then c1
        clear c1
        have hr := hN.rds
        go_wp2_with fail
        refine (lim_solve HLIM.out (by omega) A _ cap n _ hx hr).mono ?_
        rintro e w6 ⟨v6, rfl, c1⟩
        replace hx := hx.keep0 c1
        replace hch := hch.then c1
        clear c1 hr hN
        go_wp2_with (refine wpList_make3 _ rfl (.tmp 96) (.tmp 96) rfl ((m : Nat) : Int) ((m : Nat) : Int) m rfl rfl rfl rfl (by omega) ?_)
        intro w7 hN c1
        replace hx := hx.keep0 c1
        replace hch := hch.then c1
        clear c1
        have hr := hN.rds
        go_wp2_with fail
        refine (lim_apply HLIM.out (by omega) A _ cap m _ hx hr).mono ?_
        rintro e w8 ⟨v8, rfl, c1⟩
        replace hch := hch.then c1
        clear c1 hr hN hx
        go_wp2_with fail
        refine (awake3_any _).mono ?_
        rintro e w9 ⟨rfl, c1⟩
        replace hch := hch.then c1
        clear c1
        go_wp2_with fail
        go_ret
        exact ⟨rfl, hch⟩
      case inr.inr.inr.inl =>
        have d1 : ((n : Int) == 0) = false := by simp; omega
        have d2 : ((m : Int) == 0) = false := by simp; omega
        have d3 : decide ((16 : Int) < (n : Int)) = false := decide_eq_false (by omega)
        have d3n : decide (16 < n) = false := decide_eq_false (by omega)
        have d4 : decide ((16 : Int) < (m : Int)) = true := decide_eq_true (by omega)
        have d4n : decide (16 < m) = true := decide_eq_true (by omega)
        have HLIM := Lib.hid hlim
        clear hlim HML HRO HMV HBK hM
        go_wp2_with fail
        refine (lim_reduce HLIM.out (by omega) A cap _ HX.out).mono ?_
        rintro e w1 ⟨a1, a2, rfl, c1⟩
        have hx := HX.out.keep0 c1
        replace hch := hch.then c1
        clear c1
        go_wp2_with fail
        refine (lim_rank HLIM.out (by omega) A cap _ hx).mono ?_
        rintro e w2 ⟨rfl, c1⟩
        replace hx := hx.keep0 c1
        replace hch := hch.then c1
        clear c1
        go_wp2_with fail
        refine (lim_kernel HLIM.out (by omega) A cap _ hx).mono ?_
        rintro e w3 ⟨v3, rfl, c1⟩
        replace hx := hx.keep0 c1
        replace hch := hch.then c1
        clear c1
        go_wp2_with fail
        refine (lim_det HLIM.out (by omega) A cap _ hx).mono ?_
        rintro e w4 ⟨z4, rfl, c1⟩
        replace hx := hx.keep0 c1
        replace hch := hch.then c1
        clear c1
        have c2 : Chg [] w4 (w4.alloc (.cells #[.bool z4.neg, .string z4.num, .string z4.den] 26)) := (Chg.refl _ _).alloc _
        replace hx := hx.keep0 c2
        replace hch := hch.then c2
        clear c2
        go_wp2_with (refine wpList_make3 _ rfl (.tmp 89) (.tmp 89) rfl ((n : Nat) : Int) ((n : Nat) : Int) n rfl rfl rfl rfl (by omega) ?_)
        intro w5 hN c1
        replace hx := hx.keep0 c1
        replace hch := hch.then c1
        clear c1
        have hr := hN.rds
        go_wp2_with fail
        refine (lim_solve HLIM.out (by omega) A _ cap n _ hx hr).mono ?_
        rintro e w6 ⟨v6, rfl, c1⟩
        replace hx := hx.keep0 c1
        replace hch := hch.then c1
        clear c1 hr hN
        go_wp2_with (refine wpList_make3 _ rfl (.tmp 96) (.tmp 96) rfl ((m : Nat) : Int) ((m : Nat) : Int) m rfl rfl rfl rfl (by omega) ?_)
        intro w7 hN c1
        replace hx := hx.keep0 c1
        replace hch := hch.then c1
        clear c1
        have hr := hN.rds
        go_wp2_with fail
        refine (lim_apply HLIM.out (by omega) A _ cap m _ hx hr).mono ?_
        rintro e w8 ⟨v8, rfl, c1⟩
        replace hch := hch.then c1
        clear c1 hr hN hx
        go_wp2_with fail
        refine (awake3_any _).mono ?_
        rintro e w9 ⟨rfl, c1⟩
        replace hch := hch.then c1
        clear c1
        go_wp2_with fail
        go_ret
        exact ⟨rfl, hch⟩
      case inr.inr.inr.inr.inl =>
        have d1 : ((n : Int) == 0) = false := by simp; omega
        have d2 : ((m : Int) == 0) = false := by simp; omega
        have d3 : decide ((16 : Int) < (n : Int)) = false := decide_eq_false (by omega)
        have d3n : decide (16 < n) = false := decide_eq_false (by omega)
        have d4 : decide ((16 : Int) < (m : Int)) = false := decide_eq_false (by omega)
        have d4n : decide (16 < m) = false := decide_eq_false (by omega)
        have d5 : ((n : Int) != (m : Int)) = true := by simp; omega
        have d6 : ((n : Int) == (m : Int)) = false := by simp; omega
        have d7 : ¬ n = m := h4
        have HLIM := Lib.hid hlim
        clear hlim HML HRO HMV HBK hM
        go_wp2_with fail
        refine (lim_reduce HLIM.out (by omega) A cap _ HX.out).mono ?_
        rintro e w1 ⟨a1, a2, rfl, c1⟩
        have hx := HX.out.keep0 c1
        replace hch := hch.then c1
        clear c1
        go_wp2_with fail
        refine (lim_rank HLIM.out (by omega) A cap _ hx).mono ?_
        rintro e w2 ⟨rfl, c1⟩
        replace hx := hx.keep0 c1
        replace hch := hch.then c1
        clear c1
        go_wp2_with fail
        refine (lim_kernel HLIM.out (by omega) A cap _ hx).mono ?_
        rintro e w3 ⟨v3, rfl, c1⟩
        replace hx := hx.keep0 c1
        replace hch := hch.then c1
        clear c1
        go_wp2_with fail
        refine (lim_det HLIM.out (by omega) A cap _ hx).mono ?_
        rintro e w4 ⟨z4, rfl, c1⟩
        replace hx := hx.keep0 c1
        replace hch := hch.then c1
        clear c1
        have c2 : Chg [] w4 (w4.alloc (.cells #[.bool z4.neg, .string z4.num, .string z4.den] 26)) := (Chg.refl _ _).alloc _
        replace hx := hx.keep0 c2
        replace hch := hch.then c2
        clear c2
        go_wp2_with (refine wpList_make3 _ rfl (.tmp 89) (.tmp 89) rfl ((n : Nat) : Int) ((n : Nat) : Int) n rfl rfl rfl rfl (by omega) ?_)
        intro w5 hN c1
        replace hx := hx.keep0 c1
        replace hch := hch.then c1
        clear c1
        have hr := hN.rds
        go_wp2_with fail
        refine (lim_solve HLIM.out (by omega) A _ cap n _ hx hr).mono ?_
        rintro e w6 ⟨v6, rfl, c1⟩
        replace hx := hx.keep0 c1
        replace hch := hch.then c1
        clear c1 hr hN
        go_wp2_with (refine wpList_make3 _ rfl (.tmp 96) (.tmp 96) rfl ((m : Nat) : Int) ((m : Nat) : Int) m rfl rfl rfl rfl (by omega) ?_)
        intro w7 hN c1
        replace hx := hx.keep0 c1
        replace hch := hch.then c1
        clear c1
        have hr := hN.rds
        go_wp2_with fail
        refine (lim_apply HLIM.out (by omega) A _ cap m _ hx hr).mono ?_
        rintro e w8 ⟨v8, rfl, c1⟩
        replace hch := hch.then c1
        clear c1 hr hN hx
        go_wp2_with fail
        refine (awake3_any _).mono ?_
        rintro e w9 ⟨rfl, c1⟩
        replace hch := hch.then c1
        clear c1
        go_wp2_with fail
        go_ret
        exact ⟨rfl, hch⟩
      case inr.inr.inr.inr.inr =>
        have d1 : ((n : Int) == 0) = false := by simp; omega
        have d2 : ((m : Int) == 0) = false := by simp; omega
        subst h4
        have d3 : decide ((16 : Int) < (n : Int)) = false := decide_eq_false (by omega)
        have d3n : decide (16 < n) = false := decide_eq_false (by omega)
        have HLIM := Lib.hid hlim
        clear hlim HML HRO HMV HBK hM
        go_wp2_with fail
        refine (lim_reduce HLIM.out (by omega) A cap _ HX.out).mono ?_
        rintro e w1 ⟨a1, a2, rfl, c1⟩
        have hx := HX.out.keep0 c1
        replace hch := hch.then c1
        clear c1
        go_wp2_with fail
        refine (lim_rank HLIM.out (by omega) A cap _ hx).mono ?_
        rintro e w2 ⟨rfl, c1⟩
        replace hx := hx.keep0 c1
        replace hch := hch.then c1
        clear c1
        go_wp2_with fail
        refine (lim_kernel HLIM.out (by omega) A cap _ hx).mono ?_
        rintro e w3 ⟨v3, rfl, c1⟩
        replace hx := hx.keep0 c1
        replace hch := hch.then c1
        clear c1
        go_wp2_with fail
        refine (lim_det HLIM.out (by omega) A cap _ hx).mono ?_
        rintro e w4 ⟨z4, rfl, c1⟩
        replace hx := hx.keep0 c1
        replace hch := hch.then c1
        clear c1
        have c2 : Chg [] w4 (w4.alloc (.cells #[.bool z4.neg, .string z4.num, .string z4.den] 26)) := (Chg.refl _ _).alloc _
        replace hx := hx.keep0 c2
        replace hch := hch.then c2
        clear c2
        go_wp2_with (refine wpList_make3 _ rfl (.tmp 89) (.tmp 89) rfl ((n : Nat) : Int) ((n : Nat) : Int) n rfl rfl rfl rfl (by omega) ?_)
        intro w5 hN c1
        replace hx := hx.keep0 c1
        replace hch := hch.then c1
        clear c1
        have hr := hN.rds
        go_wp2_with fail
        refine (lim_solve HLIM.out (by omega) A _ cap n _ hx hr).mono ?_
        rintro e w6 ⟨v6, rfl, c1⟩
        replace hx := hx.keep0 c1
        replace hch := hch.then c1
        clear c1 hr hN
        go_wp2_with (refine wpList_make3 _ rfl (.tmp 96) (.tmp 96) rfl ((n : Nat) : Int) ((n : Nat) : Int) n rfl rfl rfl rfl (by omega) ?_)
        intro w7 hN c1
        replace hx := hx.keep0 c1
        replace hch := hch.then c1
        clear c1
        have hr := hN.rds
        go_wp2_with fail
        refine (lim_apply HLIM.out (by omega) A _ cap n _ hx hr).mono ?_
        rintro e w8 ⟨v8, rfl, c1⟩
        replace hch := hch.then c1
        clear c1 hr hN hx
        go_wp2_with fail
        refine (awake3_any _).mono ?_
        rintro e w9 ⟨rfl, c1⟩
        replace hch := hch.then c1
        clear c1
        go_wp2_with fail
        go_ret
        exact ⟨rfl, hch⟩
end Go.Proofs.Ytpaochhaenehmaa
