/-
  Apportion: scaled.
-/
import Derived.Test.YtdlejpaaoinokaaAX1
namespace Go.Proofs.Ytdlejpaaoinokaa
open Go.RowKit Nd

/-- The numbers over a common denominator. -/
structure Scl (xs : List Q3) (n k : Nat) (s : Nat → ByteArray) (N : Nat → Nat) (D : Nat) : Prop where
  pos : 0 < D
  num : ∀ j, j < n → Is (s j) (N j)
  eq : ∀ j, j < n → ratOf (xs.getD j q0) = sq false (N j) D
  lD : D < 256 ^ (n * k + 1)
  lN : ∀ j, j < n → N j < 256 ^ (n * k + 1 + k)
/-- The terms so far, and a common multiple of the denominators. -/
structure Trs (xs : List Q3) (i k : Nat) (a b : Nat → ByteArray) (N M : Nat → Nat) (C : Nat) : Prop where
  trm : ∀ j, j < i → Trm (xs.getD j q0) (a j) (b j) (N j) (M j) k
  dvd : ∀ j, j < i → M j ∣ C
  pos : 0 < C
  lC : C < 256 ^ (i * k + 1)
theorem Trs.zero (xs : List Q3) (k : Nat) (a b : Nat → ByteArray) (N M : Nat → Nat) : Trs xs 0 k a b N M 1 :=
  ⟨fun j h => absurd h (by omega), fun j h => absurd h (by omega), by omega, by rw [Nat.zero_mul]; decide⟩
theorem Trs.step {xs : List Q3} {i k : Nat} {a b : Nat → ByteArray} {N M : Nat → Nat} {C : Nat} (h : Trs xs i k a b N M C) {u v : ByteArray} {P Q : Nat} (ht : Trm (xs.getD i q0) u v P Q k) : Trs xs (i + 1) k (upd a i u) (upd b i v) (upd N i P) (upd M i Q) (C * (Q / Nat.gcd C Q)) := by
  obtain ⟨l1, l2, l3⟩ := ap_lcm h.pos (Nat.pos_of_ne_zero ht.ne)
  refine ⟨fun j hj => ?_, fun j hj => ?_, l1, ?_⟩
  · by_cases e : j = i
    · subst e; rw [upd_at, upd_at, upd_at, upd_at]; exact ht
    · rw [upd_ne _ _ e, upd_ne _ _ e, upd_ne _ _ e, upd_ne _ _ e]; exact h.trm j (by omega)
  · by_cases e : j = i
    · subst e; rw [upd_at]; exact l3
    · rw [upd_ne _ _ e]; exact Nat.dvd_trans (h.dvd j (by omega)) l2
  · have h1 : Q / Nat.gcd C Q ≤ Q := Nat.div_le_self _ _
    have h2 : C * (Q / Nat.gcd C Q) ≤ C * Q := Nat.mul_le_mul_left _ h1
    have h3 : C * Q < 256 ^ (i * k + 1) * 256 ^ k := Nat.mul_lt_mul'' h.lC ht.lb
    rw [show (i + 1) * k + 1 = i * k + 1 + k by rw [Nat.add_mul]; omega, Nat.pow_add]
    omega
theorem Trs.scl {xs : List Q3} {n k : Nat} {a b : Nat → ByteArray} {N M : Nat → Nat} {C : Nat} (h : Trs xs n k a b N M C) {s : Nat → ByteArray} (hs : ∀ j, j < n → Is (s j) (N j * (C / M j))) : Scl xs n k s (fun j => N j * (C / M j)) C := by
  refine ⟨h.pos, hs, fun j hj => ?_, h.lC, fun j hj => ?_⟩
  · rw [ap_scale (h.dvd j hj) (by have := h.pos; omega)]; exact (h.trm j hj).eq
  · have h1 : C / M j ≤ C := Nat.div_le_self _ _
    have h2 : N j * (C / M j) ≤ N j * C := Nat.mul_le_mul_left _ h1
    have h3 : C * N j < 256 ^ (n * k + 1) * 256 ^ k := Nat.mul_lt_mul'' h.lC (h.trm j hj).la
    rw [Nat.mul_comm (N j) C] at h2
    show N j * (C / M j) < _
    rw [Nat.pow_add]
    omega

set_option maxRecDepth 20000 in
set_option linter.unusedSimpArgs false in
set_option maxHeartbeats 8000000 in
theorem scaled_any (xs : List Q3) (n k : Nat) (A : Option Addr) (cap : Nat) (w : World) (hn : xs.length = n) (hm : n ≤ 1024) (hk1 : 1 ≤ k) (hk : k ≤ 100000) (hf : ∀ x ∈ xs, fits x k) (h0 : ∀ j, j < n → 0 ≤ ratOf (xs.getD j q0)) (hx : Rds w A xs) :
    Calls Try.prog 25 #[.slice A n cap] w fun e w' => ∃ g s N D ds, e = .returned (.tuple #[.slice (some ⟨g, 0, none⟩) n n, .string ds]) ∧ Fb w' g n (fun j => .string (s j)) ∧ Scl xs n k s N D ∧ Is ds D ∧ w.heap.size ≤ g ∧ Chg [] w w' := by
  have HLOW : Hid (0 < xs.length → ∃ g o, A = some ⟨g, o, none⟩ ∧ g < w.heap.size) := Lib.hid hx.form
  have hch : Chg [] w w := Chg.refl _ _
  have HN := Lib.hid hn
  have HF : Hid (∀ j, j < n → fits (xs.getD j q0) k) := Lib.hid fun j hj => hf _ (mem_getD (by rw [hn]; exact hj))
  have H0 := Lib.hid h0
  obtain ⟨iS, hiS, hz0, hz1, hzb⟩ := infoS
  have HK : Hid (∀ i, i ≤ n → i * k + 1 + k ≤ 110000000) := Lib.hid fun i hi => by
    have : i * k ≤ 1024 * 100000 := Nat.mul_le_mul (by omega) hk
    omega
  clear hn hf h0
  go_enter Try.func25, Try.ntmps25
  go_wp2_with fail
  go_cut [5, 6] (fun pv qv wx => ∃ g5 g6 : Nat, pv = .slice (some ⟨g5, 0, none⟩) n n ∧ qv = .slice (some ⟨g6, 0, none⟩) n n ∧ Fb wx g5 n (fun _ => .string ⟨#[]⟩) ∧ Fb wx g6 n (fun _ => .string ⟨#[]⟩) ∧ g5 ≠ g6 ∧ w.heap.size ≤ g5 ∧ w.heap.size ≤ g6 ∧ Chg [] w wx)
  case first =>
    have hcz : Chg [] w w.drew := (Chg.refl _ _).drew
    clear hx hch
    refine wp_region_held_drew (S := (fun _ => True)) (by kernel_rfl) ?_ (fun hHeld => ?_)
    · exact trivial
    obtain ⟨wz, HWz⟩ := name_it w.drew
    rw [HWz.out] at  hcz ⊢
    refine wpAnyH_take (i := 0) (v := ?_) rfl (by kernel_rfl) (by kernel_rfl) (by kernel_rfl) (fun _ _ _ h => h) (Or.inl ⟨by rfl, ?_⟩) (by assumption) ?_
    rotate_left 1
    · intro w hSw
      try dsimp only at hSw
      go_simp
      try with_reducible rfl
    try simp only [Act.put, List.setIfInBounds_toArray, List.set_cons_zero, List.set_cons_succ]
    refine wpAnyH_take (i := 3) (v := ?_) rfl (by kernel_rfl) (by kernel_rfl) (by kernel_rfl) (fun _ _ _ h => h) (Or.inl ⟨by rfl, ?_⟩) (by assumption) ?_
    rotate_left 1
    · intro w hSw
      try dsimp only at hSw
      go_simp
      try with_reducible rfl
    try simp only [Act.put, List.setIfInBounds_toArray, List.set_cons_zero, List.set_cons_succ]
    refine wpAnyH_take (i := 1) (v := ?_) rfl (by kernel_rfl) (by kernel_rfl) (by kernel_rfl) (fun _ _ _ h => h) (Or.inl ⟨by rfl, ?_⟩) (by assumption) ?_
    rotate_left 1
    · intro w hSw
      try dsimp only at hSw
      go_simp
      try with_reducible rfl
    try simp only [Act.put, List.setIfInBounds_toArray, List.set_cons_zero, List.set_cons_succ]
    refine wpAnyH_take (i := 4) (v := ?_) rfl (by kernel_rfl) (by kernel_rfl) (by kernel_rfl) (fun _ _ _ h => h) (Or.inl ⟨by rfl, ?_⟩) (by assumption) ?_
    rotate_left 1
    · intro w hSw
      try dsimp only at hSw
      go_simp
      try with_reducible rfl
    try simp only [Act.put, List.setIfInBounds_toArray, List.set_cons_zero, List.set_cons_succ]
    refine wpAnyH_ready (rs := [2, 5]) (by kernel_rfl) (by simp) ?_
    refine AllReadyH.cons (o := _) rfl (fun K' hK => ?_) ?_
    · have hl17 : w.heap.size ≤ _ := hcz.size
      refine step_makeF _ (by rfl) (.tmp 17) (.tmp 17) 53 (by rfl) 9 iS _ Try.underlying53 hiS hz0 hz1 rfl .i64 .i64 n (by rfl) (by rfl) (by rw [hzb]; omega) (by omega) ?_
      intro wm1 hA c6
      replace hcz := hcz.then c6
      clear c6
      refine hK.out _ _ ?_ (fun hHeld => ?_)
      · exact trivial
      clear hK K'
      try simp only [Act.put, List.setIfInBounds_toArray, List.set_cons_zero, List.set_cons_succ]
      obtain ⟨gA, HGgA⟩ := name_it wz.heap.size
      rw [HGgA.out] at hA hl17 ⊢
      refine wpAnyH_take (i := 6) (v := ?_) rfl (by kernel_rfl) (by kernel_rfl) (by kernel_rfl) (fun _ _ _ h => h) (Or.inl ⟨by rfl, ?_⟩) (by assumption) ?_
      rotate_left 1
      · intro w hSw
        try dsimp only at hSw
        go_simp
        try with_reducible rfl
      try simp only [Act.put, List.setIfInBounds_toArray, List.set_cons_zero, List.set_cons_succ]
      refine wpAnyH_ready (rs := [5]) (by kernel_rfl) (by simp) ?_
      refine AllReadyH.cons (o := _) rfl (fun K' hK => ?_) AllReadyH.nil
      have hl20 : w.heap.size ≤ _ := hcz.size
      refine step_makeF _ (by rfl) (.tmp 20) (.tmp 20) 53 (by rfl) 9 iS _ Try.underlying53 hiS hz0 hz1 rfl .i64 .i64 n (by rfl) (by rfl) (by rw [hzb]; omega) (by omega) ?_
      intro wm2 hB c6
      have hne : _ := hA.lt
      replace hA := hA.keep0 c6
      replace hcz := hcz.then c6
      clear c6
      refine hK.out _ _ ?_ (fun hHeld => ?_)
      · exact trivial
      clear hK K'
      try simp only [Act.put, List.setIfInBounds_toArray, List.set_cons_zero, List.set_cons_succ]
      obtain ⟨gB, HGgB⟩ := name_it wm1.heap.size
      rw [HGgB.out] at hB hl20 hne ⊢
      refine wpAnyH_take (i := 7) (v := ?_) rfl (by kernel_rfl) (by kernel_rfl) (by kernel_rfl) (fun _ _ _ h => h) (Or.inl ⟨by rfl, ?_⟩) (by assumption) ?_
      rotate_left 1
      · intro w hSw
        try dsimp only at hSw
        go_simp
        try with_reducible rfl
      try simp only [List.getElem_toArray, List.getElem_cons_succ, List.getElem_cons_zero]
      try simp only [Act.put, List.setIfInBounds_toArray, List.set_cons_zero, List.set_cons_succ]
      refine wpAnyH_done (by kernel_rfl) ?_ _
      go_wp2_with fail
      go_meet
      exact ⟨_, _, rfl, rfl, hA, hB, by omega, by omega, by omega, hcz⟩
    refine AllReadyH.cons (o := _) rfl (fun K' hK => ?_) AllReadyH.nil
    have hl20 : w.heap.size ≤ _ := hcz.size
    refine step_makeF _ (by rfl) (.tmp 20) (.tmp 20) 53 (by rfl) 9 iS _ Try.underlying53 hiS hz0 hz1 rfl .i64 .i64 n (by rfl) (by rfl) (by rw [hzb]; omega) (by omega) ?_
    intro wm3 hB c6
    replace hcz := hcz.then c6
    clear c6
    refine hK.out _ _ ?_ (fun hHeld => ?_)
    · exact trivial
    clear hK K'
    try simp only [Act.put, List.setIfInBounds_toArray, List.set_cons_zero, List.set_cons_succ]
    obtain ⟨gB, HGgB⟩ := name_it wz.heap.size
    rw [HGgB.out] at hB hl20 ⊢
    refine wpAnyH_ready (rs := [2]) (by kernel_rfl) (by simp) ?_
    refine AllReadyH.cons (o := _) rfl (fun K' hK => ?_) AllReadyH.nil
    have hl17 : w.heap.size ≤ _ := hcz.size
    refine step_makeF _ (by rfl) (.tmp 17) (.tmp 17) 53 (by rfl) 9 iS _ Try.underlying53 hiS hz0 hz1 rfl .i64 .i64 n (by rfl) (by rfl) (by rw [hzb]; omega) (by omega) ?_
    intro wm4 hA c6
    have hne : _ := hB.lt
    replace hB := hB.keep0 c6
    replace hcz := hcz.then c6
    clear c6
    refine hK.out _ _ ?_ (fun hHeld => ?_)
    · exact trivial
    clear hK K'
    try simp only [Act.put, List.setIfInBounds_toArray, List.set_cons_zero, List.set_cons_succ]
    obtain ⟨gA, HGgA⟩ := name_it wm3.heap.size
    rw [HGgA.out] at hA hl17 hne ⊢
    refine wpAnyH_take (i := 6) (v := ?_) rfl (by kernel_rfl) (by kernel_rfl) (by kernel_rfl) (fun _ _ _ h => h) (Or.inl ⟨by rfl, ?_⟩) (by assumption) ?_
    rotate_left 1
    · intro w hSw
      try dsimp only at hSw
      go_simp
      try with_reducible rfl
    try simp only [Act.put, List.setIfInBounds_toArray, List.set_cons_zero, List.set_cons_succ]
    refine wpAnyH_take (i := 7) (v := ?_) rfl (by kernel_rfl) (by kernel_rfl) (by kernel_rfl) (fun _ _ _ h => h) (Or.inl ⟨by rfl, ?_⟩) (by assumption) ?_
    rotate_left 1
    · intro w hSw
      try dsimp only at hSw
      go_simp
      try with_reducible rfl
    try simp only [List.getElem_toArray, List.getElem_cons_succ, List.getElem_cons_zero]
    try simp only [Act.put, List.setIfInBounds_toArray, List.set_cons_zero, List.set_cons_succ]
    refine wpAnyH_done (by kernel_rfl) ?_ _
    go_wp2_with fail
    go_meet
    exact ⟨_, _, rfl, rfl, hA, hB, by omega, by omega, by omega, hcz⟩
  case rest =>
    obtain ⟨g5, g6, rfl, rfl, hA, hB, hne, hg5, hg6, hc9⟩ := hcut
    replace hx := hx.keep0 hc9
    replace hch := hch.then hc9
    clear hc9
    go_wp2_with fail
    go_loopw [4, 24] (fun cv iv wr => ∃ (i C : Nat) (c : ByteArray) (a b : Nat → ByteArray) (N M : Nat → Nat), i ≤ n ∧ iv = .int .i64 i ∧ cv = .string c ∧ Is c C ∧ Trs xs i k a b N M C ∧ Fb wr g5 n (fun j => .string (a j)) ∧ Fb wr g6 n (fun j => .string (b j)) ∧ Rds wr A xs ∧ Chg [] w wr) (fun _ iv _ => n - (intOf iv).toNat)
    case atStart => exact ⟨0, 1, ⟨#[1]⟩, fun _ => ⟨#[]⟩, fun _ => ⟨#[]⟩, fun _ => 0, fun _ => 0, Nat.zero_le _, rfl, rfl, Is_oneS, Trs.zero _ _ _ _ _ _, hA, hB, hx, hch⟩
    case round =>
      clear hx hch hA hB
      obtain ⟨i, C, c, a, b, N, M, hi, rfl, rfl, hc, ht, hA, hB, hx, hch⟩ := hrel
      have HC := Lib.hid hc
      have HT := Lib.hid ht
      clear hc ht
      have hkb := HK.out i hi
      by_cases hlt : i < n
      · obtain ⟨g, o, rfl, hgl⟩ := HLOW.out (by rw [HN.out]; omega)
        have hcx := hx.at_ (j := i) (by rw [HN.out]; exact hlt)
        have HTM := Lib.hid (fun w => terms_any (xs.getD i q0) k w hk1 hk (HF.out i hlt) (H0.out i hlt))
        have HST : Hid (∀ u v P Q, Trm (xs.getD i q0) u v P Q k → Trs xs (i + 1) k (upd a i u) (upd b i v) (upd N i P) (upd M i Q) (C * (Q / Nat.gcd C Q))) := Lib.hid fun u v P Q h => HT.out.step h
        obtain ⟨t, HTT⟩ := name_it (xs.getD i q0)
        rw [HTT.out] at hcx HTM HST
        obtain ⟨a0, a1, a2⟩ := hcx
        have c4 : Chg [] wr (wr.alloc (.cells #[.bool t.neg, .string t.num, .string t.den] 38)) := (Chg.refl _ _).alloc _
        have b4 := Blk3.alloc wr (.bool t.neg) (.string t.num) (.string t.den) 38
        have HX1 := Lib.hid (hx.keep0 c4)
        replace hA := hA.keep0 c4
        replace hB := hB.keep0 c4
        replace hch := hch.then c4
        clear hx c4
        have b4c0 := b4.c0
        have b4c1 := b4.c1
        have b4c2 := b4.c2
        have b4f0 := b4.f0
        have b4f1 := b4.f1
        have b4f2 := b4.f2
        have b4l := b4.lt
        go_wp2_with fail
        refine (HTM.out _).mono ?_
        rintro e w1 ⟨u, v, P, Q, rfl, htm, c1⟩
        clear b4c0 b4c1 b4c2 b4f0 b4f1 b4f2 b4l
        have HTR := Lib.hid htm
        have HX2 := Lib.hid (HX1.out.keep0 c1)
        replace hA := hA.keep0 c1
        replace hB := hB.keep0 c1
        replace hch := hch.then c1
        clear c1 htm a0 a1 a2 b4
        have p0 := hA.cell i hlt
        have p1 := hA.frz i hlt
        have p2 := hB.cell i hlt
        have p3 := hB.frz i hlt
        have hgA := hA.lt
        have hgB := hB.lt
        have hAS : Fb ((w1.setCell ⟨g5, i, none⟩ (.string u)).setCell ⟨g6, i, none⟩ (.string v)) g5 n (fun j => .string (upd a i u j)) :=
          (hA.store hlt (.string u) _ (by simp only [upd_at]) (fun j _ e => by simp only [upd_ne _ _ e])).sto (by omega) i _
        have hBS : Fb ((w1.setCell ⟨g5, i, none⟩ (.string u)).setCell ⟨g6, i, none⟩ (.string v)) g6 n (fun j => .string (upd b i v j)) :=
          (hB.sto (by omega) i _).store hlt (.string v) _ (by simp only [upd_at]) (fun j _ e => by simp only [upd_ne _ _ e])
        have hXS := (HX2.out.sto (show g ≠ g5 by omega) i (.string u)).sto (show g ≠ g6 by omega) i (.string v)
        have hchS := (hch.setCell (p := ⟨g5, i, none⟩) (.inr (show w.heap.size ≤ g5 from hg5)) (.string u)).setCell (p := ⟨g6, i, none⟩) (.inr (show w.heap.size ≤ g6 from hg6)) (.string v)
        clear hA hB hch
        have i1 : (0 : Int) ≤ (i : Int) := by omega
        have i2 : (i : Int) < (n : Int) := by omega
        go_wp2_with fail
        obtain ⟨w2, HW2⟩ := name_it ((w1.setCell ⟨g5, i, none⟩ (.string u)).setCell ⟨g6, i, none⟩ (.string v))
        rw [HW2.out] at hAS hBS hXS hchS ⊢
        clear p0 p1 p2 p3 HX2
        have c8 : Chg [] w2 w2.drew := (Chg.refl _ _).drew
        have hAD := hAS.keep0 c8
        have hBD := hBS.keep0 c8
        have hXD := hXS.keep0 c8
        have hchD := hchS.then c8
        clear c8 hAS hBS hXS hchS
        have hb : w2.drew.cell? ⟨g6, i, none⟩ = some (.string v) := by have h := hBD.cell i hlt; rw [upd_at] at h; exact h
        have HQL : Hid (v.size ≤ k ∧ c.size ≤ i * k + 1 ∧ val v = Q ∧ val c = C ∧ Q ≠ 0) := Lib.hid ⟨Is_size HTR.out.b _ HTR.out.lb, Is_size HC.out _ HT.out.lC, Is_val HTR.out.b, Is_val HC.out, HTR.out.ne⟩
        obtain ⟨q1, q2, q3, q4, q5⟩ := HQL.out
        have hcel : C1 w2.drew g6 i (.string v) := ⟨hb, hBD.lt⟩
        clear hb HW2 q3 q4 q5
        go_region_held3 (fun w' => w'.cell? ⟨g6, i, none⟩ = some (.string v)) (first | exact hcel.c0) (first
          | (go_at_call 53
             (with_reducible refine (GCD_any c v _ (by omega) (by omega)).mono ?_)
             rintro e w6 ⟨s6, rfl, hs6, c6⟩
             have HS6 : Hid (Is s6 (Nat.gcd C Q)) := Lib.hid (by rw [HQL.out.2.2.1, HQL.out.2.2.2.1] at hs6; exact hs6)
             have HS6L : Hid (s6.size ≤ k) := Lib.hid (Is_size HS6.out _ (Nat.lt_of_le_of_lt (Nat.le_of_dvd (Nat.pos_of_ne_zero HQL.out.2.2.2.2) (Nat.gcd_dvd_right C Q)) HTR.out.lb))
             have hs6l := HS6L.out
             replace hcel := hcel.keep0 c6
             replace hAD := hAD.keep0 c6
             replace hBD := hBD.keep0 c6
             replace hXD := hXD.keep0 c6
             replace hchD := hchD.then c6
             clear c6 hs6)
          | (go_at_call 45
             (with_reducible refine (Divide_any v s6 _ (by omega) (by omega) (by rw [Is_val HS6.out]; exact Nat.ne_of_gt (Nat.gcd_pos_of_pos_right C (Nat.pos_of_ne_zero HQL.out.2.2.2.2)))).mono ?_)
             rintro e w7 ⟨s7, r7, rfl, hs7, -, c7⟩
             have HS7 : Hid (Is s7 (Q / Nat.gcd C Q)) := Lib.hid (by rw [HQL.out.2.2.1, Is_val HS6.out] at hs7; exact hs7)
             have HS7L : Hid (s7.size ≤ k) := Lib.hid (Is_size HS7.out _ (Nat.lt_of_le_of_lt (Nat.div_le_self _ _) HTR.out.lb))
             have hs7l := HS7L.out
             replace hcel := hcel.keep0 c7
             replace hAD := hAD.keep0 c7
             replace hBD := hBD.keep0 c7
             replace hXD := hXD.keep0 c7
             replace hchD := hchD.then c7
             clear c7 hs7)
          | fail)
        all_goals
          clear hcel
          go_wp2_with fail
          refine (multiply_any c s7 _ (by omega) (by omega)).mono ?_
          rintro e w8 ⟨s8, rfl, hs8, c8⟩
          have HS8 : Hid (Is s8 (C * (Q / Nat.gcd C Q))) := Lib.hid (by rw [Is_val HC.out, Is_val HS7.out] at hs8; exact hs8)
          replace hAD := hAD.keep0 c8
          replace hBD := hBD.keep0 c8
          replace hXD := hXD.keep0 c8
          replace hchD := hchD.then c8
          clear c8 hs8 q1 q2 hs6l hs7l
          go_wp2_with fail
          go_roundw
          case rel => exact ⟨i + 1, _, s8, _, _, _, _, by omega, by go_num, rfl, HS8.out, HST.out u v P Q HTR.out, hAD, hBD, hXD, hchD⟩
          case measure => simp [intOf]; omega
      · obtain rfl : i = n := by omega
        have HDV : Hid (∀ j, j < i → Is (b j) (M j) ∧ M j ≠ 0 ∧ M j < 256 ^ k ∧ Is (a j) (N j) ∧ N j < 256 ^ k) := Lib.hid fun j hj => by
          have h := HT.out.trm j hj
          exact ⟨h.b, h.ne, h.lb, h.a, h.la⟩
        have hcs : c.size ≤ i * k + 1 := Is_size HC.out _ HT.out.lC
        clear hx
        go_wp2_with fail
        go_loopw [61] (fun jv wj => ∃ (j : Nat) (p : Nat → ByteArray), j ≤ i ∧ jv = .int .i64 j ∧ (∀ t, t < j → Is (p t) (N t * (C / M t))) ∧ (∀ t, j ≤ t → p t = a t) ∧ Fb wj g5 i (fun t => .string (p t)) ∧ Fb wj g6 i (fun t => .string (b t)) ∧ Chg [] w wj) (fun jv _ => i - (intOf jv).toNat)
        case atStart => exact ⟨0, a, Nat.zero_le _, rfl, fun t h => absurd h (by omega), fun _ _ => rfl, hA, hB, hch⟩
        case round =>
          clear hA hB hch
          obtain ⟨j, p, hj, rfl, hp1, hp2, hA, hB, hch⟩ := hrel
          have HP1 := Lib.hid hp1
          have HP2 := Lib.hid hp2
          clear hp1 hp2
          by_cases hlt : j < i
          · obtain ⟨d1, d2, d3, d4, d5⟩ := HDV.out j hlt
            have hbz : (b j).size ≤ k := Is_size d1 _ d3
            have haz : (a j).size ≤ k := Is_size d4 _ d5
            have hpj := HP2.out j (Nat.le_refl _)
            have HD := Lib.hid (And.intro d1 (And.intro d2 d4))
            have hcb : wr.cell? ⟨g6, j, none⟩ = some (.string (b j)) := hB.cell j hlt
            have hca : wr.cell? ⟨g5, j, none⟩ = some (.string (p j)) := hA.cell j hlt
            have hcf := hA.frz j hlt
            rw [hpj] at hca
            obtain ⟨x, HX⟩ := name_it (b j)
            obtain ⟨y, HY⟩ := name_it (a j)
            rw [HX.out] at hcb hbz HD
            rw [HY.out] at hca haz HD
            have hgA := hA.lt
            have hgB := hB.lt
            clear d1 d2 d3 d4 d5 hpj
            have i1 : (0 : Int) ≤ (j : Int) := by omega
            have i2 : (j : Int) < (i : Int) := by omega
            go_wp2_with fail
            refine (Divide_any c x _ (by omega) (by omega) (by rw [Is_val HD.out.1]; exact HD.out.2.1)).mono ?_
            rintro e w6 ⟨s6, r6, rfl, hs6, -, c6⟩
            have HS6 : Hid (Is s6 (C / M j)) := Lib.hid (by rw [Is_val HC.out, Is_val HD.out.1] at hs6; exact hs6)
            have hs6l : s6.size ≤ i * k + 1 := Is_size HS6.out _ (Nat.lt_of_le_of_lt (Nat.div_le_self _ _) HT.out.lC)
            replace hA := hA.keep0 c6
            replace hB := hB.keep0 c6
            replace hch := hch.then c6
            clear c6 hs6 hcb hca hcf
            have hca : w6.cell? ⟨g5, j, none⟩ = some (.string (p j)) := hA.cell j hlt
            rw [HP2.out j (Nat.le_refl _), HY.out] at hca
            go_wp2_with fail
            refine (multiply_any y s6 _ (by omega) (by omega)).mono ?_
            rintro e w7 ⟨s7, rfl, hs7, c7⟩
            have HS7 : Hid (Is s7 (N j * (C / M j))) := Lib.hid (by rw [Is_val HD.out.2.2, Is_val HS6.out] at hs7; exact hs7)
            replace hA := hA.keep0 c7
            replace hB := hB.keep0 c7
            replace hch := hch.then c7
            clear c7 hs7 hca
            have hca := hA.cell j hlt
            have hcf := hA.frz j hlt
            have hAS : Fb (w7.setCell ⟨g5, j, none⟩ (.string s7)) g5 i (fun t => .string (upd p j s7 t)) := hA.store hlt (.string s7) _ (by simp only [upd_at]) (fun t _ e => by simp only [upd_ne _ _ e])
            have hBS := hB.sto (show g6 ≠ g5 by omega) j (.string s7)
            have hchS := hch.setCell (p := ⟨g5, j, none⟩) (.inr (show w.heap.size ≤ g5 from hg5)) (.string s7)
            have HN1 : Hid (∀ t, t < j + 1 → Is (upd p j s7 t) (N t * (C / M t))) := Lib.hid fun t ht => by
              by_cases e : t = j
              · subst e; rw [upd_at]; exact HS7.out
              · rw [upd_ne _ _ e]; exact HP1.out t (by omega)
            have HN2 : Hid (∀ t, j + 1 ≤ t → upd p j s7 t = a t) := Lib.hid fun t ht => by
              rw [upd_ne _ _ (by omega)]; exact HP2.out t (by omega)
            clear hbz haz hs6l hB hch
            go_wp2_with fail
            go_roundw
            case rel => exact ⟨j + 1, upd p j s7, by omega, by go_num, HN1.out, HN2.out, hAS, hBS, hchS⟩
            case measure => simp [intOf]; omega
          · obtain rfl : j = i := by omega
            have HSC := Lib.hid (HT.out.scl HP1.out)
            go_wp2_with fail
            go_ret2
            exact ⟨g5, p, _, C, c, rfl, hA, HSC.out, HC.out, hg5, hch⟩
end Go.Proofs.Ytdlejpaaoinokaa
