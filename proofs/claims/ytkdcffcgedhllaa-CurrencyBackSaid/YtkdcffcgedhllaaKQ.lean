/-
  Of law 0: Quotes.
-/
import Derived.Test.YtkdcffcgedhllaaKL2
import Derived.Test.YtkdcffcgedhllaaKT
namespace Go.Proofs.Ytkdcffcgedhllaa
open Go.RowKit Nd

theorem wpAnyH_str {P : Program} {md : Region.Mode} {ops : Array Oper} {Q : Exit → Act → World → Prop} {S S' : World → Prop} (hw : ∀ w, S' w → S w) : ∀ {fuel : Nat} {listed : Array Bool} {a : Act} {w : World}, wpAnyH P md ops Q S' fuel listed a w → wpAnyH P md ops Q S fuel listed a w
  | 0, _, _, _, h => h
  | _ + 1, _, _, _, h => ⟨h.1, fun i hi => wpOp_mono (fun _ _ h' => ⟨hw _ h'.1, wpAnyH_str hw h'.2⟩) (h.2 i hi)⟩
/-- A cell that can be read. -/
structure C1 (w : World) (g j : Nat) (v : Value) : Prop where
  c0 : w.cell? ⟨g, j, none⟩ = some v
  l : g < w.heap.size
theorem C1.keep {gs : List Nat} {w w' : World} {g j : Nat} {v : Value} (h : C1 w g j v) (hc : Chg gs w w') (hg : g ∉ gs) : C1 w' g j v :=
  ⟨(hc.cell (p := ⟨g, _, none⟩) h.l hg).trans h.c0, Nat.lt_of_lt_of_le h.l hc.size⟩
theorem C1.keep0 {w w' : World} {g j : Nat} {v : Value} (h : C1 w g j v) (hc : Chg [] w w') : C1 w' g j v := h.keep hc (by simp)
theorem Chg.stQt {gs : List Nat} {a w : World} (h : Chg gs a w) {g : Nat} (hg : g ∈ gs ∨ a.heap.size ≤ g) (v0 v1 v2 v3 v4 : Value) : Chg gs a (((((w.setCell ⟨g, 0, none⟩ v0).setCell ⟨g, 1, none⟩ v1).setCell ⟨g, 2, none⟩ v2).setCell ⟨g, 3, none⟩ v3).setCell ⟨g, 4, none⟩ v4) :=
  ((((h.setCell hg _).setCell hg _).setCell hg _).setCell hg _).setCell hg _
theorem BlkQt.sto {w : World} {g : Nat} {a0 a1 a2 a3 a4 : Value} (h : BlkQt w g a0 a1 a2 a3 a4) (v0 v1 v2 v3 v4 : Value) : BlkQt (((((w.setCell ⟨g, 0, none⟩ v0).setCell ⟨g, 1, none⟩ v1).setCell ⟨g, 2, none⟩ v2).setCell ⟨g, 3, none⟩ v3).setCell ⟨g, 4, none⟩ v4) g v0 v1 v2 v3 v4 := by
  obtain ⟨c0, c1, c2, c3, c4, f0, f1, f2, f3, f4, l⟩ := h
  refine ⟨?_, ?_, ?_, ?_, ?_, ?_, ?_, ?_, ?_, ?_, ?_⟩
  · simp [go_sem, c0]
  · simp [go_sem, c1]
  · simp [go_sem, c2]
  · simp [go_sem, c3]
  · simp [go_sem, c4]
  · rw [World.frozen?_setCell, World.frozen?_setCell, World.frozen?_setCell, World.frozen?_setCell, World.frozen?_setCell]; exact f0
  · rw [World.frozen?_setCell, World.frozen?_setCell, World.frozen?_setCell, World.frozen?_setCell, World.frozen?_setCell]; exact f1
  · rw [World.frozen?_setCell, World.frozen?_setCell, World.frozen?_setCell, World.frozen?_setCell, World.frozen?_setCell]; exact f2
  · rw [World.frozen?_setCell, World.frozen?_setCell, World.frozen?_setCell, World.frozen?_setCell, World.frozen?_setCell]; exact f3
  · rw [World.frozen?_setCell, World.frozen?_setCell, World.frozen?_setCell, World.frozen?_setCell, World.frozen?_setCell]; exact f4
  · simpa using l
/-- What law 0 builds. -/
structure BQ (l : List Qt) : Prop where
  len : l.length ≤ 8
  cod : ∀ q ∈ l, (codeB q.cd = true ∧ q.cd ≠ eur) ∧ q.cd.size ≤ 1000
  day : ∀ q ∈ l, 0 ≤ q.dy ∧ q.dy ≤ 39
  rat : ∀ q ∈ l, fits q.rt 1 ∧ 0 < ratOf q.rt
  one : ∀ i j, i < l.length → j < l.length → (l.getD i qt0).cd = (l.getD j qt0).cd → (l.getD i qt0).dy = (l.getD j qt0).dy → i = j
theorem BQ.good {l : List Qt} (h : BQ l) : GoodQ l :=
  ⟨by have := h.len; omega, fun q hq => (h.cod q hq).1, fun q hq => by have := h.day q hq; exact isd_of this.1 (by omega), fun q hq => (h.rat q hq).2, h.one⟩
theorem BQ.fit {l : List Qt} (h : BQ l) : FitQ l 1 := ⟨by omega, by omega, fun q hq => (h.rat q hq).1, fun q hq => (h.cod q hq).2⟩
theorem BQ.nil : BQ [] := ⟨by simp, (by intro q h; cases h), (by intro q h; cases h), (by intro q h; cases h), (fun i j h => absurd h (by simp))⟩
theorem dup_no {l : List Qt} {q : Qt} (h : dupL l q = false) {i : Nat} (hi : i < l.length) (h1 : (l.getD i qt0).cd = q.cd) (h2 : (l.getD i qt0).dy = q.dy) : False := by
  rw [dup_hit hi h1 h2] at h; cases h
theorem BQ.snoc {l : List Qt} {q : Qt} (h : BQ l) (hl : l.length < 8) (hc : (codeB q.cd = true ∧ q.cd ≠ eur) ∧ q.cd.size ≤ 1000) (hd : 0 ≤ q.dy ∧ q.dy ≤ 39) (hr : fits q.rt 1 ∧ 0 < ratOf q.rt) (hn : dupL l q = false) : BQ (l ++ [q]) := by
  refine ⟨by simp; omega, ?_, ?_, ?_, ?_⟩
  · intro x hx; rcases List.mem_append.1 hx with h1 | h1
    · exact h.cod x h1
    · rw [List.mem_singleton.1 h1]; exact hc
  · intro x hx; rcases List.mem_append.1 hx with h1 | h1
    · exact h.day x h1
    · rw [List.mem_singleton.1 h1]; exact hd
  · intro x hx; rcases List.mem_append.1 hx with h1 | h1
    · exact h.rat x h1
    · rw [List.mem_singleton.1 h1]; exact hr
  · intro i j hi hj h1 h2
    rw [List.length_append, List.length_singleton] at hi hj
    rw [snoc_getQt, snoc_getQt] at h1 h2
    by_cases e1 : i < l.length
    · rw [if_pos e1] at h1 h2
      by_cases e2 : j < l.length
      · rw [if_pos e2] at h1 h2; exact h.one i j e1 e2 h1 h2
      · rw [if_neg e2, if_pos (by omega)] at h1 h2
        exact (dup_no hn e1 h1 h2).elim
    · rw [if_neg e1, if_pos (by omega)] at h1 h2
      by_cases e2 : j < l.length
      · rw [if_pos e2] at h1 h2
        exact (dup_no hn e2 h1.symm h2.symm).elim
      · omega
/-- The currency of a built quote. -/
def cdQ (x : Int) : ByteArray := if x % 3 = 0 then usd else if x % 3 = 1 then gbp else jpy
theorem cdQ_ok (x : Int) : (codeB (cdQ x) = true ∧ cdQ x ≠ eur) ∧ (cdQ x).size ≤ 1000 := by
  unfold cdQ
  split
  · exact ⟨usd_ok, by decide⟩
  · split
    · exact ⟨gbp_ok, by decide⟩
    · exact ⟨jpy_ok, by decide⟩
theorem cdQ_cell {w : World} {g : Nat} {x r : Int} {k : ByteArray} (h : Blk3 w g (.string ⟨#[85, 83, 68]⟩) (.string ⟨#[71, 66, 80]⟩) (.string ⟨#[74, 80, 89]⟩)) (_ : 0 ≤ x) (hk : cdQ x = k) (hr : x % 3 = r) : C1 w g r.toNat (.string k) := by
  refine ⟨?_, h.lt⟩
  subst hk hr
  unfold cdQ
  rcases (by omega : x % 3 = 0 ∨ x % 3 = 1 ∨ x % 3 = 2) with e | e | e
  · rw [e]; exact h.c0
  · rw [e]; exact h.c1
  · rw [e]; exact h.c2
theorem ratQ_pos {a b : Int} (ha : 1 ≤ a) (hb : 1 ≤ b) : 0 < ratQ a b := by
  unfold ratQ
  rw [frac_eq (by omega) (by omega)]
  have h1 : (0 : Rat) < (a : Rat) := by exact_mod_cast (by omega : (0 : Int) < a)
  have h2 : (0 : Rat) < (b : Rat) := by exact_mod_cast (by omega : (0 : Int) < b)
  rw [Rat.div_def]
  exact Rat.mul_pos h1 (Rat.inv_pos.2 h2)
theorem ratQ_bd {a b : Int} (ha : 1 ≤ a) (ha2 : a ≤ 255) (hb : 1 ≤ b) (hb2 : b ≤ 255) : Bd 1 (ratQ a b) := Bd_sq (by omega) (by omega) (by omega)

set_option maxRecDepth 20000 in
set_option linter.unusedSimpArgs false in
set_option maxHeartbeats 4000000 in
theorem quotes_any (L : List T3) (n : Nat) (A : Option Addr) (cap : Nat) (w : World) (hn : L.length = n) (hr : ∀ x ∈ L, InT3 x) (hx : ST3 w A L) :
    Calls Try.prog 20 #[.slice A n cap] w fun e w' => ∃ v xs, e = .returned v ∧ OwnQt w' v xs ∧ BQ xs ∧ (∀ x ∈ v.ownBlock.toList, w.heap.size ≤ x) ∧ Chg [] w w' := by
  have HLOW : Hid (0 < L.length → ∃ g o, A = some ⟨g, o, none⟩ ∧ g < w.heap.size) := Lib.hid hx.form
  have hch : Chg [] w w := Chg.refl _ _
  have HN := Lib.hid hn
  have HR := Lib.hid hr
  clear hn hr
  go_enter Try.func20, Try.ntmps20
  go_wp2_with fail
  go_loopw [3, 4] (fun ov iv wr => ∃ (i c : Nat) (xs : List Qt), i ≤ n ∧ i ≤ 8 ∧ iv = .int .i64 i ∧ OwnQt wr ov xs ∧ xs.length = c ∧ c ≤ i ∧ BQ xs ∧ (∀ x ∈ ov.ownBlock.toList, w.heap.size ≤ x) ∧ ST3 wr A L ∧ Chg [] w wr) (fun _ iv _ => n - (intOf iv).toNat)
  case atStart => exact ⟨0, 0, [], Nat.zero_le _, Nat.zero_le _, rfl, OwnQt.nil _, rfl, Nat.le_refl _, BQ.nil, (by simp [Value.ownBlock]), hx, hch⟩
  case round =>
    clear hx hch
    obtain ⟨i, c, xs, hi, hi8, rfl, hown, hxl, hci, hbq, hblk, hx, hch⟩ := hrel
    have HXL := Lib.hid hxl
    have HBQ := Lib.hid hbq
    have HBK := Lib.hid hblk
    clear hxl hbq hblk
    by_cases hlt : i < n ∧ i < 8
    · obtain ⟨hltn, hlt8⟩ := hlt
      obtain ⟨g, o, rfl, hgl⟩ := HLOW.out (by rw [HN.out]; omega)
      have hc := hx.at_ (j := i) (by rw [HN.out]; exact hltn)
      have hin := HR.out _ (memT3 (show i < L.length by rw [HN.out]; exact hltn))
      obtain ⟨t, HT⟩ := name_it (L.getD i t30)
      rw [HT.out] at hc hin
      obtain ⟨a, HA⟩ := name_it t.a
      obtain ⟨b, HB⟩ := name_it t.b
      obtain ⟨e, HE⟩ := name_it t.c
      have p0 := hc.c0
      have p1 := hc.c1
      have p2 := hc.c2
      have a1 := hin.a1
      have a2 := hin.a2
      have b1 := hin.b1
      have b2 := hin.b2
      have e1 := hin.c1
      have e2 := hin.c2
      rw [HA.out] at p0 a1 a2
      rw [HB.out] at p1 b1 b2
      rw [HE.out] at p2 e1 e2
      obtain ⟨k, HK⟩ := name_it (cdQ a)
      obtain ⟨b4, HB4⟩ := name_it (b % 40)
      obtain ⟨e3, HE3⟩ := name_it (e % 30)
      obtain ⟨e4, HE4⟩ := name_it (e / 30)
      obtain ⟨e9, HE9⟩ := name_it (e4 % 9)
      have f1 : b.tmod 40 = b4 := by rw [Int.tmod_eq_emod_of_nonneg b1]; exact HB4.out
      have f2 : e.tmod 30 = e3 := by rw [Int.tmod_eq_emod_of_nonneg e1]; exact HE3.out
      have f3 : IntKind.u16.wrap (e.tdiv 30) = e4 := by rw [u16_div e1 e2 (by omega)]; exact HE4.out
      have e41 : 0 ≤ e4 := by rw [← HE4.out]; omega
      have f4 : e4.tmod 9 = e9 := by rw [Int.tmod_eq_emod_of_nonneg e41]; exact HE9.out
      have b41 : 0 ≤ b4 := by rw [← HB4.out]; omega
      have b42 : b4 ≤ 39 := by rw [← HB4.out]; omega
      have e31 : 0 ≤ e3 := by rw [← HE3.out]; omega
      have e32 : e3 ≤ 29 := by rw [← HE3.out]; omega
      have e91 : 0 ≤ e9 := by rw [← HE9.out]; omega
      have e92 : e9 ≤ 8 := by rw [← HE9.out]; omega
      have w1 : IntKind.i64.wrap b4 = b4 := by rw [IntKind.wrap_i64]; omega
      have w2 : IntKind.i64.wrap e3 = e3 := by rw [IntKind.wrap_i64]; omega
      have w3 : IntKind.i64.wrap e9 = e9 := by rw [IntKind.wrap_i64]; omega
      have w4 : IntKind.i64.wrap (1 + e3) = 1 + e3 := by rw [IntKind.wrap_i64]; omega
      have w5 : IntKind.i64.wrap (1 + e9) = 1 + e9 := by rw [IntKind.wrap_i64]; omega
      have i1 : (0 : Int) ≤ (i : Int) := by omega
      have i2 : (i : Int) < (n : Int) := by omega
      have hp : CT3 wr g (o + i * 3) ⟨a, b, e⟩ := ⟨p0, p1, p2, hc.l⟩
      obtain ⟨B, cb, rfl, hcb1, hcb2, hs⟩ := hown.rds
      rw [HXL.out] at hown hcb1 HBK ⊢
      clear hc hin p0 p1 p2
      have hhigh : w.heap.size ≤ wr.heap.size := hch.size
      go_wp2_with fail
      go_cut [5] (fun pv wx => ∃ (g5 : Nat) (z : Q3), pv = .pointer (some ⟨g5, 0, none⟩) ∧ Val z (ratQ (1 + e3) (1 + e9)) 1 ∧ BlkQt wx g5 (.string k) (.int .i64 b4) (.bool z.neg) (.string z.num) (.string z.den) ∧ Chg [] wr wx)
      case first =>
        clear hown hs hx
        have c8 : Chg [] wr wr.drew := (Chg.refl _ _).drew
        replace hp := hp.keep0 c8
        have hcz : Chg [] wr wr.drew := c8
        clear c8 hch
        obtain ⟨r3, HR3⟩ := name_it (a % 3)
        have r3e : a % 3 = r3 := HR3.out
        have f0 : a.tmod 3 = r3 := by rw [Int.tmod_eq_emod_of_nonneg a1]; exact HR3.out
        have r31 : 0 ≤ r3 := by omega
        have r32 : r3 < 3 := by omega
        refine wp_region_held_drew (S := (fun w' => w'.cell? ⟨g, o + i * 3, none⟩ = some (.int .u16 a) ∧ w'.cell? ⟨g, o + i * 3 + 1, none⟩ = some (.int .u16 b) ∧ w'.cell? ⟨g, o + i * 3 + 2, none⟩ = some (.int .u16 e))) (by kernel_rfl) ?_ (fun hHeld => ?_)
        · exact ⟨hp.c0, hp.c1, hp.c2⟩
        obtain ⟨wz, HWz⟩ := name_it wr.drew
        rw [HWz.out] at hp hcz hHeld ⊢
        refine wpAnyH_take (i := 1) (v := ?_) rfl (by kernel_rfl) (by kernel_rfl) (by kernel_rfl) (fun _ _ _ h => h) (Or.inl ⟨by rfl, ?_⟩) (by assumption) ?_
        rotate_left 1
        · intro w hSw
          try dsimp only at hSw
          go_simp
          try with_reducible rfl
        try simp only [Act.put, List.setIfInBounds_toArray, List.set_cons_zero, List.set_cons_succ]
        refine wpAnyH_take (i := 2) (v := ?_) rfl (by kernel_rfl) (by kernel_rfl) (by kernel_rfl) (fun _ _ _ h => h) (Or.inl ⟨by rfl, ?_⟩) (by assumption) ?_
        rotate_left 1
        · intro w hSw
          try dsimp only at hSw
          go_simp
          try with_reducible rfl
        try simp only [Act.put, List.setIfInBounds_toArray, List.set_cons_zero, List.set_cons_succ]
        refine wpAnyH_take (i := 9) (v := ?_) rfl (by kernel_rfl) (by kernel_rfl) (by kernel_rfl) (fun _ _ _ h => h) (Or.inl ⟨by rfl, ?_⟩) (by assumption) ?_
        rotate_left 1
        · intro w hSw
          try dsimp only at hSw
          go_simp
          try with_reducible rfl
        try simp only [Act.put, List.setIfInBounds_toArray, List.set_cons_zero, List.set_cons_succ]
        refine wpAnyH_take (i := 10) (v := ?_) rfl (by kernel_rfl) (by kernel_rfl) (by kernel_rfl) (fun _ _ _ h => h) (Or.inl ⟨by rfl, ?_⟩) (by assumption) ?_
        rotate_left 1
        · intro w hSw
          try dsimp only at hSw
          go_simp
          try with_reducible rfl
        try simp only [Act.put, List.setIfInBounds_toArray, List.set_cons_zero, List.set_cons_succ]
        refine wpAnyH_take (i := 16) (v := ?_) rfl (by kernel_rfl) (by kernel_rfl) (by kernel_rfl) (fun _ _ _ h => h) (Or.inl ⟨by rfl, ?_⟩) (by assumption) ?_
        rotate_left 1
        · intro w hSw
          try dsimp only at hSw
          go_simp
          try with_reducible rfl
        try simp only [Act.put, List.setIfInBounds_toArray, List.set_cons_zero, List.set_cons_succ]
        refine wpAnyH_take (i := 17) (v := ?_) rfl (by kernel_rfl) (by kernel_rfl) (by kernel_rfl) (fun _ _ _ h => h) (Or.inl ⟨by rfl, ?_⟩) (by assumption) ?_
        rotate_left 1
        · intro w hSw
          try dsimp only at hSw
          go_simp
          try with_reducible rfl
        try simp only [Act.put, List.setIfInBounds_toArray, List.set_cons_zero, List.set_cons_succ]
        refine wpAnyH_take (i := 24) (v := ?_) rfl (by kernel_rfl) (by kernel_rfl) (by kernel_rfl) (fun _ _ _ h => h) (Or.inl ⟨by rfl, ?_⟩) (by assumption) ?_
        rotate_left 1
        · intro w hSw
          try dsimp only at hSw
          go_simp
          try with_reducible rfl
        try simp only [Act.put, List.setIfInBounds_toArray, List.set_cons_zero, List.set_cons_succ]
        refine wpAnyH_take (i := 25) (v := ?_) rfl (by kernel_rfl) (by kernel_rfl) (by kernel_rfl) (fun _ _ _ h => h) (Or.inl ⟨by rfl, ?_⟩) (by assumption) ?_
        rotate_left 1
        · intro w hSw
          try dsimp only at hSw
          go_simp
          try with_reducible rfl
        try simp only [Act.put, List.setIfInBounds_toArray, List.set_cons_zero, List.set_cons_succ]
        refine wpAnyH_take (i := 3) (v := ?_) rfl (by kernel_rfl) (by kernel_rfl) (by kernel_rfl) (fun _ _ _ h => h) (Or.inl ⟨by rfl, ?_⟩) (by assumption) ?_
        rotate_left 1
        · intro w hSw
          try dsimp only at hSw
          go_simp
          try with_reducible rfl
        try simp only [Act.put, List.setIfInBounds_toArray, List.set_cons_zero, List.set_cons_succ]
        refine wpAnyH_take (i := 11) (v := ?_) rfl (by kernel_rfl) (by kernel_rfl) (by kernel_rfl) (fun _ _ _ h => h) (Or.inl ⟨by rfl, ?_⟩) (by assumption) ?_
        rotate_left 1
        · intro w hSw
          try dsimp only at hSw
          go_simp
          try with_reducible rfl
        try simp only [Act.put, List.setIfInBounds_toArray, List.set_cons_zero, List.set_cons_succ]
        refine wpAnyH_take (i := 18) (v := ?_) rfl (by kernel_rfl) (by kernel_rfl) (by kernel_rfl) (fun _ _ _ h => h) (Or.inl ⟨by rfl, ?_⟩) (by assumption) ?_
        rotate_left 1
        · intro w hSw
          try dsimp only at hSw
          go_simp
          try with_reducible rfl
        try simp only [Act.put, List.setIfInBounds_toArray, List.set_cons_zero, List.set_cons_succ]
        refine wpAnyH_take (i := 26) (v := ?_) rfl (by kernel_rfl) (by kernel_rfl) (by kernel_rfl) (fun _ _ _ h => h) (Or.inl ⟨by rfl, ?_⟩) (by assumption) ?_
        rotate_left 1
        · intro w hSw
          try dsimp only at hSw
          go_simp
          try with_reducible rfl
        try simp only [Act.put, List.setIfInBounds_toArray, List.set_cons_zero, List.set_cons_succ]
        refine wpAnyH_take (i := 4) (v := ?_) rfl (by kernel_rfl) (by kernel_rfl) (by kernel_rfl) (fun _ _ _ h => h) (Or.inl ⟨by rfl, ?_⟩) (by assumption) ?_
        rotate_left 1
        · intro w hSw
          try dsimp only at hSw
          go_simp
          try with_reducible rfl
        try simp only [Act.put, List.setIfInBounds_toArray, List.set_cons_zero, List.set_cons_succ]
        refine wpAnyH_take (i := 12) (v := ?_) rfl (by kernel_rfl) (by kernel_rfl) (by kernel_rfl) (fun _ _ _ h => h) (Or.inl ⟨by rfl, ?_⟩) (by assumption) ?_
        rotate_left 1
        · intro w hSw
          try dsimp only at hSw
          go_simp
          try with_reducible rfl
        try simp only [Act.put, List.setIfInBounds_toArray, List.set_cons_zero, List.set_cons_succ]
        refine wpAnyH_take (i := 19) (v := ?_) rfl (by kernel_rfl) (by kernel_rfl) (by kernel_rfl) (fun _ _ _ h => h) (Or.inl ⟨by rfl, ?_⟩) (by assumption) ?_
        rotate_left 1
        · intro w hSw
          try dsimp only at hSw
          go_simp
          try with_reducible rfl
        try simp only [Act.put, List.setIfInBounds_toArray, List.set_cons_zero, List.set_cons_succ]
        refine wpAnyH_take (i := 27) (v := ?_) rfl (by kernel_rfl) (by kernel_rfl) (by kernel_rfl) (fun _ _ _ h => h) (Or.inl ⟨by rfl, ?_⟩) (by assumption) ?_
        rotate_left 1
        · intro w hSw
          try dsimp only at hSw
          go_simp
          try with_reducible rfl
        try simp only [Act.put, List.setIfInBounds_toArray, List.set_cons_zero, List.set_cons_succ]
        refine wpAnyH_take (i := 5) (v := ?_) rfl (by kernel_rfl) (by kernel_rfl) (by kernel_rfl) (fun _ _ _ h => h) (Or.inl ⟨by rfl, ?_⟩) (by assumption) ?_
        rotate_left 1
        · intro w hSw
          try dsimp only at hSw
          go_simp
          try with_reducible rfl
        try simp only [Act.put, List.setIfInBounds_toArray, List.set_cons_zero, List.set_cons_succ]
        refine wpAnyH_take (i := 13) (v := ?_) rfl (by kernel_rfl) (by kernel_rfl) (by kernel_rfl) (fun _ _ _ h => h) (Or.inl ⟨by rfl, ?_⟩) (by assumption) ?_
        rotate_left 1
        · intro w hSw
          try dsimp only at hSw
          go_simp
          try with_reducible rfl
        try simp only [Act.put, List.setIfInBounds_toArray, List.set_cons_zero, List.set_cons_succ]
        refine wpAnyH_take (i := 20) (v := ?_) rfl (by kernel_rfl) (by kernel_rfl) (by kernel_rfl) (fun _ _ _ h => h) (Or.inl ⟨by rfl, ?_⟩) (by assumption) ?_
        rotate_left 1
        · intro w hSw
          try dsimp only at hSw
          go_simp
          try with_reducible rfl
        try simp only [Act.put, List.setIfInBounds_toArray, List.set_cons_zero, List.set_cons_succ]
        refine wpAnyH_take (i := 28) (v := ?_) rfl (by kernel_rfl) (by kernel_rfl) (by kernel_rfl) (fun _ _ _ h => h) (Or.inl ⟨by rfl, ?_⟩) (by assumption) ?_
        rotate_left 1
        · intro w hSw
          try dsimp only at hSw
          go_simp
          try with_reducible rfl
        try simp only [Act.put, List.setIfInBounds_toArray, List.set_cons_zero, List.set_cons_succ]
        refine wpAnyH_take (i := 6) (v := ?_) rfl (by kernel_rfl) (by kernel_rfl) (by kernel_rfl) (fun _ _ _ h => h) (Or.inl ⟨by rfl, ?_⟩) (by assumption) ?_
        rotate_left 1
        · intro w hSw
          try dsimp only at hSw
          go_simp
          try with_reducible rfl
        try simp only [Act.put, List.setIfInBounds_toArray, List.set_cons_zero, List.set_cons_succ]
        refine wpAnyH_take (i := 14) (v := ?_) rfl (by kernel_rfl) (by kernel_rfl) (by kernel_rfl) (fun _ _ _ h => h) (Or.inl ⟨by rfl, ?_⟩) (by assumption) ?_
        rotate_left 1
        · intro w hSw
          try dsimp only at hSw
          go_simp
          try with_reducible rfl
        try simp only [Act.put, List.setIfInBounds_toArray, List.set_cons_zero, List.set_cons_succ]
        refine wpAnyH_take (i := 21) (v := ?_) rfl (by kernel_rfl) (by kernel_rfl) (by kernel_rfl) (fun _ _ _ h => h) (Or.inl ⟨by rfl, ?_⟩) (by assumption) ?_
        rotate_left 1
        · intro w hSw
          try dsimp only at hSw
          go_simp
          try with_reducible rfl
        try simp only [Act.put, List.setIfInBounds_toArray, List.set_cons_zero, List.set_cons_succ]
        refine wpAnyH_take (i := 29) (v := ?_) rfl (by kernel_rfl) (by kernel_rfl) (by kernel_rfl) (fun _ _ _ h => h) (Or.inl ⟨by rfl, ?_⟩) (by assumption) ?_
        rotate_left 1
        · intro w hSw
          try dsimp only at hSw
          go_simp
          try with_reducible rfl
        try simp only [Act.put, List.setIfInBounds_toArray, List.set_cons_zero, List.set_cons_succ]
        refine wpAnyH_take (i := 15) (v := ?_) rfl (by kernel_rfl) (by kernel_rfl) (by kernel_rfl) (fun _ _ _ h => h) (Or.inl ⟨by rfl, ?_⟩) (by assumption) ?_
        rotate_left 1
        · intro w hSw
          try dsimp only at hSw
          go_simp
          try with_reducible rfl
        try simp only [Act.put, List.setIfInBounds_toArray, List.set_cons_zero, List.set_cons_succ]
        refine wpAnyH_take (i := 22) (v := ?_) rfl (by kernel_rfl) (by kernel_rfl) (by kernel_rfl) (fun _ _ _ h => h) (Or.inl ⟨by rfl, ?_⟩) (by assumption) ?_
        rotate_left 1
        · intro w hSw
          try dsimp only at hSw
          go_simp
          try with_reducible rfl
        try simp only [Act.put, List.setIfInBounds_toArray, List.set_cons_zero, List.set_cons_succ]
        refine wpAnyH_take (i := 30) (v := ?_) rfl (by kernel_rfl) (by kernel_rfl) (by kernel_rfl) (fun _ _ _ h => h) (Or.inl ⟨by rfl, ?_⟩) (by assumption) ?_
        rotate_left 1
        · intro w hSw
          try dsimp only at hSw
          go_simp
          try with_reducible rfl
        try simp only [Act.put, List.setIfInBounds_toArray, List.set_cons_zero, List.set_cons_succ]
        refine wpAnyH_take (i := 23) (v := ?_) rfl (by kernel_rfl) (by kernel_rfl) (by kernel_rfl) (fun _ _ _ h => h) (Or.inl ⟨by rfl, ?_⟩) (by assumption) ?_
        rotate_left 1
        · intro w hSw
          try dsimp only at hSw
          go_simp
          try with_reducible rfl
        try simp only [Act.put, List.setIfInBounds_toArray, List.set_cons_zero, List.set_cons_succ]
        refine wpAnyH_take (i := 31) (v := ?_) rfl (by kernel_rfl) (by kernel_rfl) (by kernel_rfl) (fun _ _ _ h => h) (Or.inl ⟨by rfl, ?_⟩) (by assumption) ?_
        rotate_left 1
        · intro w hSw
          try dsimp only at hSw
          go_simp
          try with_reducible rfl
        try simp only [Act.put, List.setIfInBounds_toArray, List.set_cons_zero, List.set_cons_succ]
        refine wpAnyH_take (i := 32) (v := ?_) rfl (by kernel_rfl) (by kernel_rfl) (by kernel_rfl) (fun _ _ _ h => h) (Or.inl ⟨by rfl, ?_⟩) (by assumption) ?_
        rotate_left 1
        · intro w hSw
          try dsimp only at hSw
          go_simp
          try with_reducible rfl
        try simp only [Act.put, List.setIfInBounds_toArray, List.set_cons_zero, List.set_cons_succ]
        refine wpAnyH_ready (rs := [0, 33, 35]) (by kernel_rfl) (by simp) ?_
        refine AllReadyH.cons (o := _) rfl (fun K' hK => ?_) ?_
        · go_simp
          refine hK.out _ _ ?_ (fun hHeld => ?_)
          · exact ⟨(hp.keep0 ((Chg.refl [] _).alloc _)).c0, (hp.keep0 ((Chg.refl [] _).alloc _)).c1, (hp.keep0 ((Chg.refl [] _).alloc _)).c2⟩
          clear hK K'
          try simp only [Act.put, List.setIfInBounds_toArray, List.set_cons_zero, List.set_cons_succ]
          have hB := Blk3.alloc wz (.string ⟨#[85, 83, 68]⟩) (.string ⟨#[71, 66, 80]⟩) (.string ⟨#[74, 80, 89]⟩) 9
          have c9 : Chg [] wz (wz.alloc (.cells #[.string ⟨#[85, 83, 68]⟩, .string ⟨#[71, 66, 80]⟩, .string ⟨#[74, 80, 89]⟩] 9)) := (Chg.refl _ _).alloc _
          replace hp := hp.keep0 c9
          replace hcz := hcz.then c9
          clear c9
          obtain ⟨wq16, HWwq16⟩ := name_it (wz.alloc (.cells #[.string ⟨#[85, 83, 68]⟩, .string ⟨#[71, 66, 80]⟩, .string ⟨#[74, 80, 89]⟩] 9))
          obtain ⟨gB, HGgB⟩ := name_it wz.heap.size
          rw [HWwq16.out] at hp hB hcz hHeld ⊢
          rw [HGgB.out] at hB ⊢
          have hk := cdQ_cell hB a1 HK.out r3e
          refine wpAnyH_str (S' := (fun w' => w'.cell? ⟨g, o + i * 3, none⟩ = some (.int .u16 a) ∧ w'.cell? ⟨g, o + i * 3 + 1, none⟩ = some (.int .u16 b) ∧ w'.cell? ⟨g, o + i * 3 + 2, none⟩ = some (.int .u16 e) ∧ w'.cell? ⟨gB, r3.toNat, none⟩ = some (.string k))) (fun _ h => ⟨h.1, h.2.1, h.2.2.1⟩) ?_
          clear hHeld
          have hHeld : (fun w' => w'.cell? ⟨g, o + i * 3, none⟩ = some (.int .u16 a) ∧ w'.cell? ⟨g, o + i * 3 + 1, none⟩ = some (.int .u16 b) ∧ w'.cell? ⟨g, o + i * 3 + 2, none⟩ = some (.int .u16 e) ∧ w'.cell? ⟨gB, r3.toNat, none⟩ = some (.string k)) wq16 := ⟨hp.c0, hp.c1, hp.c2, hk.c0⟩
          refine wpAnyH_take (i := 7) (v := ?_) rfl (by kernel_rfl) (by kernel_rfl) (by kernel_rfl) (fun _ _ _ h => h) (Or.inl ⟨by rfl, ?_⟩) (by assumption) ?_
          rotate_left 1
          · intro w hSw
            try dsimp only at hSw
            go_simp
            try with_reducible rfl
          try simp only [Act.put, List.setIfInBounds_toArray, List.set_cons_zero, List.set_cons_succ]
          refine wpAnyH_take (i := 8) (v := ?_) rfl (by kernel_rfl) (by kernel_rfl) (by kernel_rfl) (fun _ _ _ h => h) (Or.inl ⟨by rfl, ?_⟩) (by assumption) ?_
          rotate_left 1
          · intro w hSw
            try dsimp only at hSw
            go_simp
            try with_reducible rfl
          try simp only [Act.put, List.setIfInBounds_toArray, List.set_cons_zero, List.set_cons_succ]
          refine wpAnyH_ready (rs := [33, 35]) (by kernel_rfl) (by simp) ?_
          refine AllReadyH.cons (o := _) rfl (fun K' hK => ?_) ?_
          · go_simp
            refine (ratio_any (1 + e3) (1 + e9) _ (by omega) (by omega) (by omega) (by omega)).mono ?_
            rintro e9 wc17 ⟨z, rfl, hz, c6⟩
            have HZ : Hid (Val z (ratQ (1 + e3) (1 + e9)) 1) := Lib.hid ⟨hz.enc, ratQ_bd (by omega) (by omega) (by omega) (by omega)⟩
            clear hz
            replace hp := hp.keep0 c6
            replace hB := hB.keep0 c6
            replace hk := hk.keep0 c6
            replace hcz := hcz.then c6
            clear c6
            go_wp2_with fail
            refine hK.out _ _ ?_ (fun hHeld => ?_)
            · exact ⟨hp.c0, hp.c1, hp.c2, hk.c0⟩
            clear hK K'
            try simp only [Act.put, List.setIfInBounds_toArray, List.set_cons_zero, List.set_cons_succ]
            refine wpAnyH_take (i := 34) (v := ?_) rfl (by kernel_rfl) (by kernel_rfl) (by kernel_rfl) (fun _ _ _ h => h) (Or.inl ⟨by rfl, ?_⟩) (by assumption) ?_
            rotate_left 1
            · intro w hSw
              try dsimp only at hSw
              go_simp
              try with_reducible rfl
            try simp only [Act.put, List.setIfInBounds_toArray, List.set_cons_zero, List.set_cons_succ]
            refine wpAnyH_ready (rs := [35]) (by kernel_rfl) (by simp) ?_
            refine AllReadyH.cons (o := _) rfl (fun K' hK => ?_) AllReadyH.nil
            go_simp
            refine hK.out _ _ ?_ (fun hHeld => ?_)
            · exact ⟨(hp.keep0 ((Chg.refl [] _).alloc _)).c0, (hp.keep0 ((Chg.refl [] _).alloc _)).c1, (hp.keep0 ((Chg.refl [] _).alloc _)).c2, (hk.keep0 ((Chg.refl [] _).alloc _)).c0⟩
            clear hK K'
            try simp only [Act.put, List.setIfInBounds_toArray, List.set_cons_zero, List.set_cons_succ]
            have bA := BlkQt.alloc wc17 (.string ⟨#[]⟩) (.int .i64 0) (.bool false) (.string ⟨#[]⟩) (.string ⟨#[]⟩) 33
            have c9 : Chg [] wc17 (wc17.alloc (.cells #[.string ⟨#[]⟩, .int .i64 0, .bool false, .string ⟨#[]⟩, .string ⟨#[]⟩] 33)) := (Chg.refl _ _).alloc _
            have lg : _ < wc17.heap.size := hp.l
            have la : _ ≤ wc17.heap.size := hcz.size
            have lk : _ < wc17.heap.size := hk.l
            replace hp := hp.keep0 c9
            replace hB := hB.keep0 c9
            replace hk := hk.keep0 c9
            replace hcz := hcz.then c9
            clear c9
            obtain ⟨wq18, HWwq18⟩ := name_it (wc17.alloc (.cells #[.string ⟨#[]⟩, .int .i64 0, .bool false, .string ⟨#[]⟩, .string ⟨#[]⟩] 33))
            obtain ⟨gA, HGgA⟩ := name_it wc17.heap.size
            rw [HWwq18.out] at hp hB hk bA hcz hHeld ⊢
            rw [HGgA.out] at bA lg la lk ⊢
            refine wpAnyH_ready (rs := [36]) (by kernel_rfl) (by simp) ?_
            refine AllReadyH.cons (o := _) rfl (fun K' hK => ?_) AllReadyH.nil
            have nk : gB ≠ gA := by omega
            have ng : g ≠ gA := by omega
            have bAc0 := bA.c0
            have bAc1 := bA.c1
            have bAc2 := bA.c2
            have bAc3 := bA.c3
            have bAc4 := bA.c4
            have bAf0 := bA.f0
            have bAf1 := bA.f1
            have bAf2 := bA.f2
            have bAf3 := bA.f3
            have bAf4 := bA.f4
            have bAl := bA.lt
            go_simp
            refine hK.out _ _ ?_ (fun hHeld => ?_)
            · exact ⟨(hp.keep ((Chg.refl [gA] _).stQt (.inl (by simp)) _ _ _ _ _) (by simp; exact ng)).c0, (hp.keep ((Chg.refl [gA] _).stQt (.inl (by simp)) _ _ _ _ _) (by simp; exact ng)).c1, (hp.keep ((Chg.refl [gA] _).stQt (.inl (by simp)) _ _ _ _ _) (by simp; exact ng)).c2, (hk.keep ((Chg.refl [gA] _).stQt (.inl (by simp)) _ _ _ _ _) (by simp; exact nk)).c0⟩
            clear hK K'
            try simp only [Act.put, List.setIfInBounds_toArray, List.set_cons_zero, List.set_cons_succ]
            clear bAc0 bAc1 bAc2 bAc3 bAc4 bAf0 bAf1 bAf2 bAf3 bAf4
            refine wpAnyH_done (by kernel_rfl) ?_ _
            go_wp2_with fail
            go_meet
            exact ⟨gA, z, rfl, HZ.out, bA.sto _ _ _ _ _, hcz.stQt (.inr (by omega)) _ _ _ _ _⟩
          refine AllReadyH.cons (o := _) rfl (fun K' hK => ?_) AllReadyH.nil
          go_simp
          refine hK.out _ _ ?_ (fun hHeld => ?_)
          · exact ⟨(hp.keep0 ((Chg.refl [] _).alloc _)).c0, (hp.keep0 ((Chg.refl [] _).alloc _)).c1, (hp.keep0 ((Chg.refl [] _).alloc _)).c2, (hk.keep0 ((Chg.refl [] _).alloc _)).c0⟩
          clear hK K'
          try simp only [Act.put, List.setIfInBounds_toArray, List.set_cons_zero, List.set_cons_succ]
          have bA := BlkQt.alloc wq16 (.string ⟨#[]⟩) (.int .i64 0) (.bool false) (.string ⟨#[]⟩) (.string ⟨#[]⟩) 33
          have c9 : Chg [] wq16 (wq16.alloc (.cells #[.string ⟨#[]⟩, .int .i64 0, .bool false, .string ⟨#[]⟩, .string ⟨#[]⟩] 33)) := (Chg.refl _ _).alloc _
          have lg : _ < wq16.heap.size := hp.l
          have la : _ ≤ wq16.heap.size := hcz.size
          have lk : _ < wq16.heap.size := hk.l
          replace hp := hp.keep0 c9
          replace hB := hB.keep0 c9
          replace hk := hk.keep0 c9
          replace hcz := hcz.then c9
          clear c9
          obtain ⟨wq19, HWwq19⟩ := name_it (wq16.alloc (.cells #[.string ⟨#[]⟩, .int .i64 0, .bool false, .string ⟨#[]⟩, .string ⟨#[]⟩] 33))
          obtain ⟨gA, HGgA⟩ := name_it wq16.heap.size
          rw [HWwq19.out] at hp hB hk bA hcz hHeld ⊢
          rw [HGgA.out] at bA lg la lk ⊢
          refine wpAnyH_ready (rs := [33]) (by kernel_rfl) (by simp) ?_
          refine AllReadyH.cons (o := _) rfl (fun K' hK => ?_) AllReadyH.nil
          go_simp
          refine (ratio_any (1 + e3) (1 + e9) _ (by omega) (by omega) (by omega) (by omega)).mono ?_
          rintro e9 wc20 ⟨z, rfl, hz, c6⟩
          have HZ : Hid (Val z (ratQ (1 + e3) (1 + e9)) 1) := Lib.hid ⟨hz.enc, ratQ_bd (by omega) (by omega) (by omega) (by omega)⟩
          clear hz
          replace hp := hp.keep0 c6
          replace hB := hB.keep0 c6
          replace hk := hk.keep0 c6
          replace bA := bA.keep0 c6
          replace hcz := hcz.then c6
          clear c6
          go_wp2_with fail
          refine hK.out _ _ ?_ (fun hHeld => ?_)
          · exact ⟨hp.c0, hp.c1, hp.c2, hk.c0⟩
          clear hK K'
          try simp only [Act.put, List.setIfInBounds_toArray, List.set_cons_zero, List.set_cons_succ]
          refine wpAnyH_take (i := 34) (v := ?_) rfl (by kernel_rfl) (by kernel_rfl) (by kernel_rfl) (fun _ _ _ h => h) (Or.inl ⟨by rfl, ?_⟩) (by assumption) ?_
          rotate_left 1
          · intro w hSw
            try dsimp only at hSw
            go_simp
            try with_reducible rfl
          try simp only [Act.put, List.setIfInBounds_toArray, List.set_cons_zero, List.set_cons_succ]
          refine wpAnyH_ready (rs := [36]) (by kernel_rfl) (by simp) ?_
          refine AllReadyH.cons (o := _) rfl (fun K' hK => ?_) AllReadyH.nil
          have nk : gB ≠ gA := by omega
          have ng : g ≠ gA := by omega
          have bAc0 := bA.c0
          have bAc1 := bA.c1
          have bAc2 := bA.c2
          have bAc3 := bA.c3
          have bAc4 := bA.c4
          have bAf0 := bA.f0
          have bAf1 := bA.f1
          have bAf2 := bA.f2
          have bAf3 := bA.f3
          have bAf4 := bA.f4
          have bAl := bA.lt
          go_simp
          refine hK.out _ _ ?_ (fun hHeld => ?_)
          · exact ⟨(hp.keep ((Chg.refl [gA] _).stQt (.inl (by simp)) _ _ _ _ _) (by simp; exact ng)).c0, (hp.keep ((Chg.refl [gA] _).stQt (.inl (by simp)) _ _ _ _ _) (by simp; exact ng)).c1, (hp.keep ((Chg.refl [gA] _).stQt (.inl (by simp)) _ _ _ _ _) (by simp; exact ng)).c2, (hk.keep ((Chg.refl [gA] _).stQt (.inl (by simp)) _ _ _ _ _) (by simp; exact nk)).c0⟩
          clear hK K'
          try simp only [Act.put, List.setIfInBounds_toArray, List.set_cons_zero, List.set_cons_succ]
          clear bAc0 bAc1 bAc2 bAc3 bAc4 bAf0 bAf1 bAf2 bAf3 bAf4
          refine wpAnyH_done (by kernel_rfl) ?_ _
          go_wp2_with fail
          go_meet
          exact ⟨gA, z, rfl, HZ.out, bA.sto _ _ _ _ _, hcz.stQt (.inr (by omega)) _ _ _ _ _⟩
        refine AllReadyH.cons (o := _) rfl (fun K' hK => ?_) ?_
        · go_simp
          refine (ratio_any (1 + e3) (1 + e9) _ (by omega) (by omega) (by omega) (by omega)).mono ?_
          rintro e9 wc21 ⟨z, rfl, hz, c6⟩
          have HZ : Hid (Val z (ratQ (1 + e3) (1 + e9)) 1) := Lib.hid ⟨hz.enc, ratQ_bd (by omega) (by omega) (by omega) (by omega)⟩
          clear hz
          replace hp := hp.keep0 c6
          replace hcz := hcz.then c6
          clear c6
          go_wp2_with fail
          refine hK.out _ _ ?_ (fun hHeld => ?_)
          · exact ⟨hp.c0, hp.c1, hp.c2⟩
          clear hK K'
          try simp only [Act.put, List.setIfInBounds_toArray, List.set_cons_zero, List.set_cons_succ]
          refine wpAnyH_ready (rs := [0, 35]) (by kernel_rfl) (by simp) ?_
          refine AllReadyH.cons (o := _) rfl (fun K' hK => ?_) ?_
          · go_simp
            refine hK.out _ _ ?_ (fun hHeld => ?_)
            · exact ⟨(hp.keep0 ((Chg.refl [] _).alloc _)).c0, (hp.keep0 ((Chg.refl [] _).alloc _)).c1, (hp.keep0 ((Chg.refl [] _).alloc _)).c2⟩
            clear hK K'
            try simp only [Act.put, List.setIfInBounds_toArray, List.set_cons_zero, List.set_cons_succ]
            have hB := Blk3.alloc wc21 (.string ⟨#[85, 83, 68]⟩) (.string ⟨#[71, 66, 80]⟩) (.string ⟨#[74, 80, 89]⟩) 9
            have c9 : Chg [] wc21 (wc21.alloc (.cells #[.string ⟨#[85, 83, 68]⟩, .string ⟨#[71, 66, 80]⟩, .string ⟨#[74, 80, 89]⟩] 9)) := (Chg.refl _ _).alloc _
            replace hp := hp.keep0 c9
            replace hcz := hcz.then c9
            clear c9
            obtain ⟨wq22, HWwq22⟩ := name_it (wc21.alloc (.cells #[.string ⟨#[85, 83, 68]⟩, .string ⟨#[71, 66, 80]⟩, .string ⟨#[74, 80, 89]⟩] 9))
            obtain ⟨gB, HGgB⟩ := name_it wc21.heap.size
            rw [HWwq22.out] at hp hB hcz hHeld ⊢
            rw [HGgB.out] at hB ⊢
            have hk := cdQ_cell hB a1 HK.out r3e
            refine wpAnyH_str (S' := (fun w' => w'.cell? ⟨g, o + i * 3, none⟩ = some (.int .u16 a) ∧ w'.cell? ⟨g, o + i * 3 + 1, none⟩ = some (.int .u16 b) ∧ w'.cell? ⟨g, o + i * 3 + 2, none⟩ = some (.int .u16 e) ∧ w'.cell? ⟨gB, r3.toNat, none⟩ = some (.string k))) (fun _ h => ⟨h.1, h.2.1, h.2.2.1⟩) ?_
            clear hHeld
            have hHeld : (fun w' => w'.cell? ⟨g, o + i * 3, none⟩ = some (.int .u16 a) ∧ w'.cell? ⟨g, o + i * 3 + 1, none⟩ = some (.int .u16 b) ∧ w'.cell? ⟨g, o + i * 3 + 2, none⟩ = some (.int .u16 e) ∧ w'.cell? ⟨gB, r3.toNat, none⟩ = some (.string k)) wq22 := ⟨hp.c0, hp.c1, hp.c2, hk.c0⟩
            refine wpAnyH_take (i := 7) (v := ?_) rfl (by kernel_rfl) (by kernel_rfl) (by kernel_rfl) (fun _ _ _ h => h) (Or.inl ⟨by rfl, ?_⟩) (by assumption) ?_
            rotate_left 1
            · intro w hSw
              try dsimp only at hSw
              go_simp
              try with_reducible rfl
            try simp only [Act.put, List.setIfInBounds_toArray, List.set_cons_zero, List.set_cons_succ]
            refine wpAnyH_take (i := 8) (v := ?_) rfl (by kernel_rfl) (by kernel_rfl) (by kernel_rfl) (fun _ _ _ h => h) (Or.inl ⟨by rfl, ?_⟩) (by assumption) ?_
            rotate_left 1
            · intro w hSw
              try dsimp only at hSw
              go_simp
              try with_reducible rfl
            try simp only [Act.put, List.setIfInBounds_toArray, List.set_cons_zero, List.set_cons_succ]
            refine wpAnyH_take (i := 34) (v := ?_) rfl (by kernel_rfl) (by kernel_rfl) (by kernel_rfl) (fun _ _ _ h => h) (Or.inl ⟨by rfl, ?_⟩) (by assumption) ?_
            rotate_left 1
            · intro w hSw
              try dsimp only at hSw
              go_simp
              try with_reducible rfl
            try simp only [Act.put, List.setIfInBounds_toArray, List.set_cons_zero, List.set_cons_succ]
            refine wpAnyH_ready (rs := [35]) (by kernel_rfl) (by simp) ?_
            refine AllReadyH.cons (o := _) rfl (fun K' hK => ?_) AllReadyH.nil
            go_simp
            refine hK.out _ _ ?_ (fun hHeld => ?_)
            · exact ⟨(hp.keep0 ((Chg.refl [] _).alloc _)).c0, (hp.keep0 ((Chg.refl [] _).alloc _)).c1, (hp.keep0 ((Chg.refl [] _).alloc _)).c2, (hk.keep0 ((Chg.refl [] _).alloc _)).c0⟩
            clear hK K'
            try simp only [Act.put, List.setIfInBounds_toArray, List.set_cons_zero, List.set_cons_succ]
            have bA := BlkQt.alloc wq22 (.string ⟨#[]⟩) (.int .i64 0) (.bool false) (.string ⟨#[]⟩) (.string ⟨#[]⟩) 33
            have c9 : Chg [] wq22 (wq22.alloc (.cells #[.string ⟨#[]⟩, .int .i64 0, .bool false, .string ⟨#[]⟩, .string ⟨#[]⟩] 33)) := (Chg.refl _ _).alloc _
            have lg : _ < wq22.heap.size := hp.l
            have la : _ ≤ wq22.heap.size := hcz.size
            have lk : _ < wq22.heap.size := hk.l
            replace hp := hp.keep0 c9
            replace hB := hB.keep0 c9
            replace hk := hk.keep0 c9
            replace hcz := hcz.then c9
            clear c9
            obtain ⟨wq23, HWwq23⟩ := name_it (wq22.alloc (.cells #[.string ⟨#[]⟩, .int .i64 0, .bool false, .string ⟨#[]⟩, .string ⟨#[]⟩] 33))
            obtain ⟨gA, HGgA⟩ := name_it wq22.heap.size
            rw [HWwq23.out] at hp hB hk bA hcz hHeld ⊢
            rw [HGgA.out] at bA lg la lk ⊢
            refine wpAnyH_ready (rs := [36]) (by kernel_rfl) (by simp) ?_
            refine AllReadyH.cons (o := _) rfl (fun K' hK => ?_) AllReadyH.nil
            have nk : gB ≠ gA := by omega
            have ng : g ≠ gA := by omega
            have bAc0 := bA.c0
            have bAc1 := bA.c1
            have bAc2 := bA.c2
            have bAc3 := bA.c3
            have bAc4 := bA.c4
            have bAf0 := bA.f0
            have bAf1 := bA.f1
            have bAf2 := bA.f2
            have bAf3 := bA.f3
            have bAf4 := bA.f4
            have bAl := bA.lt
            go_simp
            refine hK.out _ _ ?_ (fun hHeld => ?_)
            · exact ⟨(hp.keep ((Chg.refl [gA] _).stQt (.inl (by simp)) _ _ _ _ _) (by simp; exact ng)).c0, (hp.keep ((Chg.refl [gA] _).stQt (.inl (by simp)) _ _ _ _ _) (by simp; exact ng)).c1, (hp.keep ((Chg.refl [gA] _).stQt (.inl (by simp)) _ _ _ _ _) (by simp; exact ng)).c2, (hk.keep ((Chg.refl [gA] _).stQt (.inl (by simp)) _ _ _ _ _) (by simp; exact nk)).c0⟩
            clear hK K'
            try simp only [Act.put, List.setIfInBounds_toArray, List.set_cons_zero, List.set_cons_succ]
            clear bAc0 bAc1 bAc2 bAc3 bAc4 bAf0 bAf1 bAf2 bAf3 bAf4
            refine wpAnyH_done (by kernel_rfl) ?_ _
            go_wp2_with fail
            go_meet
            exact ⟨gA, z, rfl, HZ.out, bA.sto _ _ _ _ _, hcz.stQt (.inr (by omega)) _ _ _ _ _⟩
          refine AllReadyH.cons (o := _) rfl (fun K' hK => ?_) AllReadyH.nil
          go_simp
          refine hK.out _ _ ?_ (fun hHeld => ?_)
          · exact ⟨(hp.keep0 ((Chg.refl [] _).alloc _)).c0, (hp.keep0 ((Chg.refl [] _).alloc _)).c1, (hp.keep0 ((Chg.refl [] _).alloc _)).c2⟩
          clear hK K'
          try simp only [Act.put, List.setIfInBounds_toArray, List.set_cons_zero, List.set_cons_succ]
          have bA := BlkQt.alloc wc21 (.string ⟨#[]⟩) (.int .i64 0) (.bool false) (.string ⟨#[]⟩) (.string ⟨#[]⟩) 33
          have c9 : Chg [] wc21 (wc21.alloc (.cells #[.string ⟨#[]⟩, .int .i64 0, .bool false, .string ⟨#[]⟩, .string ⟨#[]⟩] 33)) := (Chg.refl _ _).alloc _
          have lg : _ < wc21.heap.size := hp.l
          have la : _ ≤ wc21.heap.size := hcz.size
          replace hp := hp.keep0 c9
          replace hcz := hcz.then c9
          clear c9
          obtain ⟨wq24, HWwq24⟩ := name_it (wc21.alloc (.cells #[.string ⟨#[]⟩, .int .i64 0, .bool false, .string ⟨#[]⟩, .string ⟨#[]⟩] 33))
          obtain ⟨gA, HGgA⟩ := name_it wc21.heap.size
          rw [HWwq24.out] at hp bA hcz hHeld ⊢
          rw [HGgA.out] at bA lg la ⊢
          refine wpAnyH_ready (rs := [0]) (by kernel_rfl) (by simp) ?_
          refine AllReadyH.cons (o := _) rfl (fun K' hK => ?_) AllReadyH.nil
          go_simp
          refine hK.out _ _ ?_ (fun hHeld => ?_)
          · exact ⟨(hp.keep0 ((Chg.refl [] _).alloc _)).c0, (hp.keep0 ((Chg.refl [] _).alloc _)).c1, (hp.keep0 ((Chg.refl [] _).alloc _)).c2⟩
          clear hK K'
          try simp only [Act.put, List.setIfInBounds_toArray, List.set_cons_zero, List.set_cons_succ]
          have hB := Blk3.alloc wq24 (.string ⟨#[85, 83, 68]⟩) (.string ⟨#[71, 66, 80]⟩) (.string ⟨#[74, 80, 89]⟩) 9
          have c9 : Chg [] wq24 (wq24.alloc (.cells #[.string ⟨#[85, 83, 68]⟩, .string ⟨#[71, 66, 80]⟩, .string ⟨#[74, 80, 89]⟩] 9)) := (Chg.refl _ _).alloc _
          have lb : _ < wq24.heap.size := bA.lt
          replace hp := hp.keep0 c9
          replace bA := bA.keep0 c9
          replace hcz := hcz.then c9
          clear c9
          obtain ⟨wq25, HWwq25⟩ := name_it (wq24.alloc (.cells #[.string ⟨#[85, 83, 68]⟩, .string ⟨#[71, 66, 80]⟩, .string ⟨#[74, 80, 89]⟩] 9))
          obtain ⟨gB, HGgB⟩ := name_it wq24.heap.size
          rw [HWwq25.out] at hp bA hB hcz hHeld ⊢
          rw [HGgB.out] at hB lb ⊢
          have hk := cdQ_cell hB a1 HK.out r3e
          refine wpAnyH_str (S' := (fun w' => w'.cell? ⟨g, o + i * 3, none⟩ = some (.int .u16 a) ∧ w'.cell? ⟨g, o + i * 3 + 1, none⟩ = some (.int .u16 b) ∧ w'.cell? ⟨g, o + i * 3 + 2, none⟩ = some (.int .u16 e) ∧ w'.cell? ⟨gB, r3.toNat, none⟩ = some (.string k))) (fun _ h => ⟨h.1, h.2.1, h.2.2.1⟩) ?_
          clear hHeld
          have hHeld : (fun w' => w'.cell? ⟨g, o + i * 3, none⟩ = some (.int .u16 a) ∧ w'.cell? ⟨g, o + i * 3 + 1, none⟩ = some (.int .u16 b) ∧ w'.cell? ⟨g, o + i * 3 + 2, none⟩ = some (.int .u16 e) ∧ w'.cell? ⟨gB, r3.toNat, none⟩ = some (.string k)) wq25 := ⟨hp.c0, hp.c1, hp.c2, hk.c0⟩
          refine wpAnyH_take (i := 7) (v := ?_) rfl (by kernel_rfl) (by kernel_rfl) (by kernel_rfl) (fun _ _ _ h => h) (Or.inl ⟨by rfl, ?_⟩) (by assumption) ?_
          rotate_left 1
          · intro w hSw
            try dsimp only at hSw
            go_simp
            try with_reducible rfl
          try simp only [Act.put, List.setIfInBounds_toArray, List.set_cons_zero, List.set_cons_succ]
          refine wpAnyH_take (i := 8) (v := ?_) rfl (by kernel_rfl) (by kernel_rfl) (by kernel_rfl) (fun _ _ _ h => h) (Or.inl ⟨by rfl, ?_⟩) (by assumption) ?_
          rotate_left 1
          · intro w hSw
            try dsimp only at hSw
            go_simp
            try with_reducible rfl
          try simp only [Act.put, List.setIfInBounds_toArray, List.set_cons_zero, List.set_cons_succ]
          refine wpAnyH_take (i := 34) (v := ?_) rfl (by kernel_rfl) (by kernel_rfl) (by kernel_rfl) (fun _ _ _ h => h) (Or.inl ⟨by rfl, ?_⟩) (by assumption) ?_
          rotate_left 1
          · intro w hSw
            try dsimp only at hSw
            go_simp
            try with_reducible rfl
          try simp only [Act.put, List.setIfInBounds_toArray, List.set_cons_zero, List.set_cons_succ]
          refine wpAnyH_ready (rs := [36]) (by kernel_rfl) (by simp) ?_
          refine AllReadyH.cons (o := _) rfl (fun K' hK => ?_) AllReadyH.nil
          have nk : gB ≠ gA := by omega
          have ng : g ≠ gA := by omega
          have bAc0 := bA.c0
          have bAc1 := bA.c1
          have bAc2 := bA.c2
          have bAc3 := bA.c3
          have bAc4 := bA.c4
          have bAf0 := bA.f0
          have bAf1 := bA.f1
          have bAf2 := bA.f2
          have bAf3 := bA.f3
          have bAf4 := bA.f4
          have bAl := bA.lt
          go_simp
          refine hK.out _ _ ?_ (fun hHeld => ?_)
          · exact ⟨(hp.keep ((Chg.refl [gA] _).stQt (.inl (by simp)) _ _ _ _ _) (by simp; exact ng)).c0, (hp.keep ((Chg.refl [gA] _).stQt (.inl (by simp)) _ _ _ _ _) (by simp; exact ng)).c1, (hp.keep ((Chg.refl [gA] _).stQt (.inl (by simp)) _ _ _ _ _) (by simp; exact ng)).c2, (hk.keep ((Chg.refl [gA] _).stQt (.inl (by simp)) _ _ _ _ _) (by simp; exact nk)).c0⟩
          clear hK K'
          try simp only [Act.put, List.setIfInBounds_toArray, List.set_cons_zero, List.set_cons_succ]
          clear bAc0 bAc1 bAc2 bAc3 bAc4 bAf0 bAf1 bAf2 bAf3 bAf4
          refine wpAnyH_done (by kernel_rfl) ?_ _
          go_wp2_with fail
          go_meet
          exact ⟨gA, z, rfl, HZ.out, bA.sto _ _ _ _ _, hcz.stQt (.inr (by omega)) _ _ _ _ _⟩
        refine AllReadyH.cons (o := _) rfl (fun K' hK => ?_) AllReadyH.nil
        go_simp
        refine hK.out _ _ ?_ (fun hHeld => ?_)
        · exact ⟨(hp.keep0 ((Chg.refl [] _).alloc _)).c0, (hp.keep0 ((Chg.refl [] _).alloc _)).c1, (hp.keep0 ((Chg.refl [] _).alloc _)).c2⟩
        clear hK K'
        try simp only [Act.put, List.setIfInBounds_toArray, List.set_cons_zero, List.set_cons_succ]
        have bA := BlkQt.alloc wz (.string ⟨#[]⟩) (.int .i64 0) (.bool false) (.string ⟨#[]⟩) (.string ⟨#[]⟩) 33
        have c9 : Chg [] wz (wz.alloc (.cells #[.string ⟨#[]⟩, .int .i64 0, .bool false, .string ⟨#[]⟩, .string ⟨#[]⟩] 33)) := (Chg.refl _ _).alloc _
        have lg : _ < wz.heap.size := hp.l
        have la : _ ≤ wz.heap.size := hcz.size
        replace hp := hp.keep0 c9
        replace hcz := hcz.then c9
        clear c9
        obtain ⟨wq26, HWwq26⟩ := name_it (wz.alloc (.cells #[.string ⟨#[]⟩, .int .i64 0, .bool false, .string ⟨#[]⟩, .string ⟨#[]⟩] 33))
        obtain ⟨gA, HGgA⟩ := name_it wz.heap.size
        rw [HWwq26.out] at hp bA hcz hHeld ⊢
        rw [HGgA.out] at bA lg la ⊢
        refine wpAnyH_ready (rs := [0, 33]) (by kernel_rfl) (by simp) ?_
        refine AllReadyH.cons (o := _) rfl (fun K' hK => ?_) ?_
        · go_simp
          refine hK.out _ _ ?_ (fun hHeld => ?_)
          · exact ⟨(hp.keep0 ((Chg.refl [] _).alloc _)).c0, (hp.keep0 ((Chg.refl [] _).alloc _)).c1, (hp.keep0 ((Chg.refl [] _).alloc _)).c2⟩
          clear hK K'
          try simp only [Act.put, List.setIfInBounds_toArray, List.set_cons_zero, List.set_cons_succ]
          have hB := Blk3.alloc wq26 (.string ⟨#[85, 83, 68]⟩) (.string ⟨#[71, 66, 80]⟩) (.string ⟨#[74, 80, 89]⟩) 9
          have c9 : Chg [] wq26 (wq26.alloc (.cells #[.string ⟨#[85, 83, 68]⟩, .string ⟨#[71, 66, 80]⟩, .string ⟨#[74, 80, 89]⟩] 9)) := (Chg.refl _ _).alloc _
          have lb : _ < wq26.heap.size := bA.lt
          replace hp := hp.keep0 c9
          replace bA := bA.keep0 c9
          replace hcz := hcz.then c9
          clear c9
          obtain ⟨wq27, HWwq27⟩ := name_it (wq26.alloc (.cells #[.string ⟨#[85, 83, 68]⟩, .string ⟨#[71, 66, 80]⟩, .string ⟨#[74, 80, 89]⟩] 9))
          obtain ⟨gB, HGgB⟩ := name_it wq26.heap.size
          rw [HWwq27.out] at hp bA hB hcz hHeld ⊢
          rw [HGgB.out] at hB lb ⊢
          have hk := cdQ_cell hB a1 HK.out r3e
          refine wpAnyH_str (S' := (fun w' => w'.cell? ⟨g, o + i * 3, none⟩ = some (.int .u16 a) ∧ w'.cell? ⟨g, o + i * 3 + 1, none⟩ = some (.int .u16 b) ∧ w'.cell? ⟨g, o + i * 3 + 2, none⟩ = some (.int .u16 e) ∧ w'.cell? ⟨gB, r3.toNat, none⟩ = some (.string k))) (fun _ h => ⟨h.1, h.2.1, h.2.2.1⟩) ?_
          clear hHeld
          have hHeld : (fun w' => w'.cell? ⟨g, o + i * 3, none⟩ = some (.int .u16 a) ∧ w'.cell? ⟨g, o + i * 3 + 1, none⟩ = some (.int .u16 b) ∧ w'.cell? ⟨g, o + i * 3 + 2, none⟩ = some (.int .u16 e) ∧ w'.cell? ⟨gB, r3.toNat, none⟩ = some (.string k)) wq27 := ⟨hp.c0, hp.c1, hp.c2, hk.c0⟩
          refine wpAnyH_take (i := 7) (v := ?_) rfl (by kernel_rfl) (by kernel_rfl) (by kernel_rfl) (fun _ _ _ h => h) (Or.inl ⟨by rfl, ?_⟩) (by assumption) ?_
          rotate_left 1
          · intro w hSw
            try dsimp only at hSw
            go_simp
            try with_reducible rfl
          try simp only [Act.put, List.setIfInBounds_toArray, List.set_cons_zero, List.set_cons_succ]
          refine wpAnyH_take (i := 8) (v := ?_) rfl (by kernel_rfl) (by kernel_rfl) (by kernel_rfl) (fun _ _ _ h => h) (Or.inl ⟨by rfl, ?_⟩) (by assumption) ?_
          rotate_left 1
          · intro w hSw
            try dsimp only at hSw
            go_simp
            try with_reducible rfl
          try simp only [Act.put, List.setIfInBounds_toArray, List.set_cons_zero, List.set_cons_succ]
          refine wpAnyH_ready (rs := [33]) (by kernel_rfl) (by simp) ?_
          refine AllReadyH.cons (o := _) rfl (fun K' hK => ?_) AllReadyH.nil
          go_simp
          refine (ratio_any (1 + e3) (1 + e9) _ (by omega) (by omega) (by omega) (by omega)).mono ?_
          rintro e9 wc28 ⟨z, rfl, hz, c6⟩
          have HZ : Hid (Val z (ratQ (1 + e3) (1 + e9)) 1) := Lib.hid ⟨hz.enc, ratQ_bd (by omega) (by omega) (by omega) (by omega)⟩
          clear hz
          replace hp := hp.keep0 c6
          replace bA := bA.keep0 c6
          replace hB := hB.keep0 c6
          replace hk := hk.keep0 c6
          replace hcz := hcz.then c6
          clear c6
          go_wp2_with fail
          refine hK.out _ _ ?_ (fun hHeld => ?_)
          · exact ⟨hp.c0, hp.c1, hp.c2, hk.c0⟩
          clear hK K'
          try simp only [Act.put, List.setIfInBounds_toArray, List.set_cons_zero, List.set_cons_succ]
          refine wpAnyH_take (i := 34) (v := ?_) rfl (by kernel_rfl) (by kernel_rfl) (by kernel_rfl) (fun _ _ _ h => h) (Or.inl ⟨by rfl, ?_⟩) (by assumption) ?_
          rotate_left 1
          · intro w hSw
            try dsimp only at hSw
            go_simp
            try with_reducible rfl
          try simp only [Act.put, List.setIfInBounds_toArray, List.set_cons_zero, List.set_cons_succ]
          refine wpAnyH_ready (rs := [36]) (by kernel_rfl) (by simp) ?_
          refine AllReadyH.cons (o := _) rfl (fun K' hK => ?_) AllReadyH.nil
          have nk : gB ≠ gA := by omega
          have ng : g ≠ gA := by omega
          have bAc0 := bA.c0
          have bAc1 := bA.c1
          have bAc2 := bA.c2
          have bAc3 := bA.c3
          have bAc4 := bA.c4
          have bAf0 := bA.f0
          have bAf1 := bA.f1
          have bAf2 := bA.f2
          have bAf3 := bA.f3
          have bAf4 := bA.f4
          have bAl := bA.lt
          go_simp
          refine hK.out _ _ ?_ (fun hHeld => ?_)
          · exact ⟨(hp.keep ((Chg.refl [gA] _).stQt (.inl (by simp)) _ _ _ _ _) (by simp; exact ng)).c0, (hp.keep ((Chg.refl [gA] _).stQt (.inl (by simp)) _ _ _ _ _) (by simp; exact ng)).c1, (hp.keep ((Chg.refl [gA] _).stQt (.inl (by simp)) _ _ _ _ _) (by simp; exact ng)).c2, (hk.keep ((Chg.refl [gA] _).stQt (.inl (by simp)) _ _ _ _ _) (by simp; exact nk)).c0⟩
          clear hK K'
          try simp only [Act.put, List.setIfInBounds_toArray, List.set_cons_zero, List.set_cons_succ]
          clear bAc0 bAc1 bAc2 bAc3 bAc4 bAf0 bAf1 bAf2 bAf3 bAf4
          refine wpAnyH_done (by kernel_rfl) ?_ _
          go_wp2_with fail
          go_meet
          exact ⟨gA, z, rfl, HZ.out, bA.sto _ _ _ _ _, hcz.stQt (.inr (by omega)) _ _ _ _ _⟩
        refine AllReadyH.cons (o := _) rfl (fun K' hK => ?_) AllReadyH.nil
        go_simp
        refine (ratio_any (1 + e3) (1 + e9) _ (by omega) (by omega) (by omega) (by omega)).mono ?_
        rintro e9 wc29 ⟨z, rfl, hz, c6⟩
        have HZ : Hid (Val z (ratQ (1 + e3) (1 + e9)) 1) := Lib.hid ⟨hz.enc, ratQ_bd (by omega) (by omega) (by omega) (by omega)⟩
        clear hz
        replace hp := hp.keep0 c6
        replace bA := bA.keep0 c6
        replace hcz := hcz.then c6
        clear c6
        go_wp2_with fail
        refine hK.out _ _ ?_ (fun hHeld => ?_)
        · exact ⟨hp.c0, hp.c1, hp.c2⟩
        clear hK K'
        try simp only [Act.put, List.setIfInBounds_toArray, List.set_cons_zero, List.set_cons_succ]
        refine wpAnyH_ready (rs := [0]) (by kernel_rfl) (by simp) ?_
        refine AllReadyH.cons (o := _) rfl (fun K' hK => ?_) AllReadyH.nil
        go_simp
        refine hK.out _ _ ?_ (fun hHeld => ?_)
        · exact ⟨(hp.keep0 ((Chg.refl [] _).alloc _)).c0, (hp.keep0 ((Chg.refl [] _).alloc _)).c1, (hp.keep0 ((Chg.refl [] _).alloc _)).c2⟩
        clear hK K'
        try simp only [Act.put, List.setIfInBounds_toArray, List.set_cons_zero, List.set_cons_succ]
        have hB := Blk3.alloc wc29 (.string ⟨#[85, 83, 68]⟩) (.string ⟨#[71, 66, 80]⟩) (.string ⟨#[74, 80, 89]⟩) 9
        have c9 : Chg [] wc29 (wc29.alloc (.cells #[.string ⟨#[85, 83, 68]⟩, .string ⟨#[71, 66, 80]⟩, .string ⟨#[74, 80, 89]⟩] 9)) := (Chg.refl _ _).alloc _
        have lb : _ < wc29.heap.size := bA.lt
        replace hp := hp.keep0 c9
        replace bA := bA.keep0 c9
        replace hcz := hcz.then c9
        clear c9
        obtain ⟨wq30, HWwq30⟩ := name_it (wc29.alloc (.cells #[.string ⟨#[85, 83, 68]⟩, .string ⟨#[71, 66, 80]⟩, .string ⟨#[74, 80, 89]⟩] 9))
        obtain ⟨gB, HGgB⟩ := name_it wc29.heap.size
        rw [HWwq30.out] at hp bA hB hcz hHeld ⊢
        rw [HGgB.out] at hB lb ⊢
        have hk := cdQ_cell hB a1 HK.out r3e
        refine wpAnyH_str (S' := (fun w' => w'.cell? ⟨g, o + i * 3, none⟩ = some (.int .u16 a) ∧ w'.cell? ⟨g, o + i * 3 + 1, none⟩ = some (.int .u16 b) ∧ w'.cell? ⟨g, o + i * 3 + 2, none⟩ = some (.int .u16 e) ∧ w'.cell? ⟨gB, r3.toNat, none⟩ = some (.string k))) (fun _ h => ⟨h.1, h.2.1, h.2.2.1⟩) ?_
        clear hHeld
        have hHeld : (fun w' => w'.cell? ⟨g, o + i * 3, none⟩ = some (.int .u16 a) ∧ w'.cell? ⟨g, o + i * 3 + 1, none⟩ = some (.int .u16 b) ∧ w'.cell? ⟨g, o + i * 3 + 2, none⟩ = some (.int .u16 e) ∧ w'.cell? ⟨gB, r3.toNat, none⟩ = some (.string k)) wq30 := ⟨hp.c0, hp.c1, hp.c2, hk.c0⟩
        refine wpAnyH_take (i := 7) (v := ?_) rfl (by kernel_rfl) (by kernel_rfl) (by kernel_rfl) (fun _ _ _ h => h) (Or.inl ⟨by rfl, ?_⟩) (by assumption) ?_
        rotate_left 1
        · intro w hSw
          try dsimp only at hSw
          go_simp
          try with_reducible rfl
        try simp only [Act.put, List.setIfInBounds_toArray, List.set_cons_zero, List.set_cons_succ]
        refine wpAnyH_take (i := 8) (v := ?_) rfl (by kernel_rfl) (by kernel_rfl) (by kernel_rfl) (fun _ _ _ h => h) (Or.inl ⟨by rfl, ?_⟩) (by assumption) ?_
        rotate_left 1
        · intro w hSw
          try dsimp only at hSw
          go_simp
          try with_reducible rfl
        try simp only [Act.put, List.setIfInBounds_toArray, List.set_cons_zero, List.set_cons_succ]
        refine wpAnyH_take (i := 34) (v := ?_) rfl (by kernel_rfl) (by kernel_rfl) (by kernel_rfl) (fun _ _ _ h => h) (Or.inl ⟨by rfl, ?_⟩) (by assumption) ?_
        rotate_left 1
        · intro w hSw
          try dsimp only at hSw
          go_simp
          try with_reducible rfl
        try simp only [Act.put, List.setIfInBounds_toArray, List.set_cons_zero, List.set_cons_succ]
        refine wpAnyH_ready (rs := [36]) (by kernel_rfl) (by simp) ?_
        refine AllReadyH.cons (o := _) rfl (fun K' hK => ?_) AllReadyH.nil
        have nk : gB ≠ gA := by omega
        have ng : g ≠ gA := by omega
        have bAc0 := bA.c0
        have bAc1 := bA.c1
        have bAc2 := bA.c2
        have bAc3 := bA.c3
        have bAc4 := bA.c4
        have bAf0 := bA.f0
        have bAf1 := bA.f1
        have bAf2 := bA.f2
        have bAf3 := bA.f3
        have bAf4 := bA.f4
        have bAl := bA.lt
        go_simp
        refine hK.out _ _ ?_ (fun hHeld => ?_)
        · exact ⟨(hp.keep ((Chg.refl [gA] _).stQt (.inl (by simp)) _ _ _ _ _) (by simp; exact ng)).c0, (hp.keep ((Chg.refl [gA] _).stQt (.inl (by simp)) _ _ _ _ _) (by simp; exact ng)).c1, (hp.keep ((Chg.refl [gA] _).stQt (.inl (by simp)) _ _ _ _ _) (by simp; exact ng)).c2, (hk.keep ((Chg.refl [gA] _).stQt (.inl (by simp)) _ _ _ _ _) (by simp; exact nk)).c0⟩
        clear hK K'
        try simp only [Act.put, List.setIfInBounds_toArray, List.set_cons_zero, List.set_cons_succ]
        clear bAc0 bAc1 bAc2 bAc3 bAc4 bAf0 bAf1 bAf2 bAf3 bAf4
        refine wpAnyH_done (by kernel_rfl) ?_ _
        go_wp2_with fail
        go_meet
        exact ⟨gA, z, rfl, HZ.out, bA.sto _ _ _ _ _, hcz.stQt (.inr (by omega)) _ _ _ _ _⟩
      case rest =>
        obtain ⟨g5, z, rfl, hz, b5, hc5⟩ := hcut
        have HZ := Lib.hid hz
        replace hx := hx.keep0 hc5
        replace hown := hown.keep0 hc5
        replace hs := hs.keep0 hc5
        replace hch := hch.then hc5
        have HQ : Hid (∀ D : Bool, dupL xs ⟨k, b4, z⟩ = D → D = false → BQ (xs ++ [⟨k, b4, z⟩])) := Lib.hid fun D h1 h2 =>
          HBQ.out.snoc (by rw [HXL.out]; omega) (by rw [← HK.out]; exact cdQ_ok a) ⟨b41, b42⟩ ⟨HZ.out.num.fit, by rw [HZ.out.num.rat]; exact ratQ_pos (by omega) (by omega)⟩ (by rw [h1, h2])
        clear hz hc5 hp a1 a2 b1 b2 e1 e2 f1 f2 f3 f4 e41 e31 e32 e91 e92 w1 w2 w3 w4 w5 hhigh
        have HLOWX : Hid (0 < xs.length → ∃ g o, B = some ⟨g, o, none⟩ ∧ g < g5 ∨ True) := Lib.hid (fun _ => ⟨0, 0, .inr trivial⟩)
        clear HLOWX
        go_wp2_with fail
        go_loopw [6, 56] (fun tv jv wj => ∃ (j : Nat) (tw : Bool), j ≤ c ∧ jv = .int .i64 j ∧ tv = .bool tw ∧ dupL (xs.take j) ⟨k, b4, z⟩ = tw ∧ BlkQt wj g5 (.string k) (.int .i64 b4) (.bool z.neg) (.string z.num) (.string z.den) ∧ SQt wj B xs ∧ OwnQt wj (.slice B c cb) xs ∧ ST3 wj (some ⟨g, o, none⟩) L ∧ Chg [] w wj) (fun _ jv _ => c - (intOf jv).toNat)
        case atStart => exact ⟨0, false, Nat.zero_le _, rfl, rfl, by simp [dupL], b5, hs, hown, hx, hch⟩
        case round =>
          clear hs hown hx hch b5
          obtain ⟨j, tw, hj, rfl, rfl, htw, b5, hs, hown, hx, hch⟩ := hrel
          have HTW := Lib.hid htw
          clear htw
          by_cases hjc : j < c
          · obtain ⟨gb, ob, hBe, hgb⟩ := hs.form (by rw [HXL.out]; omega)
            subst hBe
            have hcj := hs.at_ (j := j) (by rw [HXL.out]; exact hjc)
            have HSTD := Lib.hid (dup_take (q := ⟨k, b4, z⟩) (show j < xs.length by rw [HXL.out]; exact hjc))
            obtain ⟨u, HU⟩ := name_it (xs.getD j qt0)
            rw [HU.out] at hcj HSTD
            rw [HTW.out] at HSTD
            have u0' := hcj.c0
            have u1' := hcj.c1
            have u2' := hcj.c2
            have u3' := hcj.c3
            have u4' := hcj.c4
            have c4 : Chg [] wr (wr.alloc (.cells #[.string u.cd, .int .i64 u.dy, .bool u.rt.neg, .string u.rt.num, .string u.rt.den] 33)) := (Chg.refl _ _).alloc _
            have bu := BlkQt.alloc wr (.string u.cd) (.int .i64 u.dy) (.bool u.rt.neg) (.string u.rt.num) (.string u.rt.den) 33
            replace b5 := b5.keep0 c4
            have HS1 := Lib.hid (hs.keep0 c4)
            have HO1 := Lib.hid (hown.keep0 c4)
            have HX1 := Lib.hid (hx.keep0 c4)
            replace hch := hch.then c4
            clear hs hown hx hcj c4
            have q0' := b5.c0
            have q1' := b5.c1
            have k0 := bu.c0
            have k1 := bu.c1
            cases tw with
            | true =>
              have HNX : Hid (dupL (xs.take (j + 1)) ⟨k, b4, z⟩ = true) := Lib.hid (by rw [HSTD.out]; rfl)
              go_wp2_with fail
              go_roundw
              case rel => exact ⟨j + 1, true, by omega, by go_num, rfl, HNX.out, b5, HS1.out, HO1.out, HX1.out, hch⟩
              case measure => simp [intOf]; omega
            | false =>
              by_cases hcd : u.cd = k
              · have d3 : (u.cd.toList == k.toList) = true := str_eq hcd
                by_cases hdy : u.dy = b4
                · have HNX : Hid (dupL (xs.take (j + 1)) ⟨k, b4, z⟩ = true) := Lib.hid (by rw [HSTD.out]; simp [hcd, hdy])
                  have d4 : (u.dy == b4) = true := by simp [hdy]
                  clear hcd hdy
                  go_wp2_with fail
                  go_roundw
                  case rel => exact ⟨j + 1, true, by omega, by go_num, rfl, HNX.out, b5, HS1.out, HO1.out, HX1.out, hch⟩
                  case measure => simp [intOf]; omega
                · have HNX : Hid (dupL (xs.take (j + 1)) ⟨k, b4, z⟩ = false) := Lib.hid (by rw [HSTD.out]; simp [hdy])
                  have d4 : (u.dy == b4) = false := by simp [hdy]
                  clear hcd hdy
                  go_wp2_with fail
                  go_roundw
                  case rel => exact ⟨j + 1, false, by omega, by go_num, rfl, HNX.out, b5, HS1.out, HO1.out, HX1.out, hch⟩
                  case measure => simp [intOf]; omega
              · have d3 : (u.cd.toList == k.toList) = false := str_ne hcd
                have HNX : Hid (dupL (xs.take (j + 1)) ⟨k, b4, z⟩ = false) := Lib.hid (by rw [HSTD.out]; simp [hcd])
                clear hcd
                go_wp2_with fail
                go_roundw
                case rel => exact ⟨j + 1, false, by omega, by go_num, rfl, HNX.out, b5, HS1.out, HO1.out, HX1.out, hch⟩
                case measure => simp [intOf]; omega
          · obtain rfl : j = c := by omega
            have HTX : Hid (dupL xs ⟨k, b4, z⟩ = tw) := Lib.hid (by have := HTW.out; rwa [List.take_of_length_le (by rw [HXL.out]; omega)] at this)
            cases tw with
            | true =>
              go_wp2_with fail
              go_roundw
              case rel => exact ⟨i + 1, j, xs, by omega, by omega, by go_num, hown, HXL.out, by omega, HBQ.out, HBK.out, hx, hch⟩
              case measure => simp [intOf]; omega
            | false =>
              have HB2 := Lib.hid (HQ.out _ HTX.out rfl)
              have HOWN := Lib.hid hown
              have HX1 := Lib.hid hx
              have t0 := b5.c0
              have t1 := b5.c1
              have t2 := b5.c2
              have t3 := b5.c3
              have t4 := b5.c4
              have hsz : w.heap.size ≤ wr.heap.size := hch.size
              clear hs hown hx
              go_wp2_with (first
                | (at_builtin; refine wpList_appendQt _ rfl (.tmp 78) (.tmp 80) rfl (.slice B j cb) xs rfl (HOWN.out.keep0 ((Chg.refl [] _).alloc _)) _ 1 ⟨k, b4, z⟩ rfl (sQt_new _ ⟨k, b4, z⟩) (by rw [HXL.out]; omega) ?_; intro v5 w5 own5 cv5 hv5)
                | fail)
              have HBK5 : Hid (∀ x ∈ v5.ownBlock.toList, w.heap.size ≤ x) := Lib.hid fun x hx => by
                rcases hv5 with h5 | h5
                · rw [h5] at hx; exact HBK.out x hx
                · rw [h5] at hx; simp at hx; omega
              have c6 : Chg (Value.slice B j cb).ownBlock.toList wr w5 := (((Chg.refl [] _).alloc _).mono (fun x hx => by cases hx)).trans cv5 (fun x hx => .inl hx)
              have HX5 := Lib.hid (HX1.out.keepL (N := w.heap.size) (fun h => by obtain ⟨g', o', he, hl⟩ := HLOW.out h; exact ⟨g', o', he, hl⟩) c6 (fun x hx => HBK.out x hx))
              have hch5 := hch.trans c6 (fun x hx => .inr (HBK.out x hx))
              have HO5 := Lib.hid own5
              have HL5 : Hid ((xs ++ [(⟨k, b4, z⟩ : Qt)]).length = j + 1) := Lib.hid (by rw [List.length_append, HXL.out]; rfl)
              clear own5 cv5 hv5 c6 t0 t1 t2 t3 t4 hsz
              go_wp2_with fail
              go_roundw
              case rel => exact ⟨i + 1, j + 1, xs ++ [⟨k, b4, z⟩], by omega, by omega, by go_num, HO5.out, HL5.out, by omega, HB2.out, HBK5.out, HX5.out, hch5⟩
              case measure => simp [intOf]; omega
    · have hfin : i = n ∨ (i < n ∧ i = 8) := by omega
      rcases hfin with rfl | ⟨h1, rfl⟩
      · go_wp2_with fail
        go_ret
        exact ⟨_, xs, rfl, hown, HBQ.out, HBK.out, hch⟩
      · go_wp2_with fail
        go_ret
        exact ⟨_, xs, rfl, hown, HBQ.out, HBK.out, hch⟩
end Go.Proofs.Ytkdcffcgedhllaa
