/-
  Party: countVotes.
-/
import Derived.Test.YtgdpcpbmjgaliaaPX1
namespace Go.Proofs.Ytgdpcpbmjgaliaa
open Go.RowKit Nd

theorem Blk3.sto1 {w : World} {g : Nat} {a b c : Value} (h : Blk3 w g a b c) {k : Nat} (hk : g ≠ k) (j : Nat) (v : Value) : Blk3 (w.setCell ⟨k, j, none⟩ v) g a b c :=
  h.keep ((Chg.refl [k] w).setCell (p := ⟨k, j, none⟩) (.inl (by simp)) v) (by simpa using hk)
theorem BlkStk.sto1 {w : World} {g : Nat} {a b c d e : Value} (h : BlkStk w g a b c d e) {k : Nat} (hk : g ≠ k) (j : Nat) (v : Value) : BlkStk (w.setCell ⟨k, j, none⟩ v) g a b c d e :=
  h.keep ((Chg.refl [k] w).setCell (p := ⟨k, j, none⟩) (.inl (by simp)) v) (by simpa using hk)
theorem PV.At.sto1 {p : PV} {w : World} {N : Nat} (h : p.At w) (hl : p.Low N) {k : Nat} (hk : N ≤ k) (j : Nat) (v : Value) : p.At (w.setCell ⟨k, j, none⟩ v) :=
  h.keepL hl ((Chg.refl [k] w).setCell (p := ⟨k, j, none⟩) (.inl (by simp)) v) (by intro x hx; simp at hx; omega)
/-- The units so far. -/
def f1 (i j : Nat) : ByteArray := if j < i then ⟨#[1]⟩ else ⟨#[]⟩
/-- The votes so far. -/
def v1 (P : PD) (i j : Nat) : Nat := if j < i then Vn P j else 0
theorem Uc_step {P : PD} {i c : Nat} (h : P.c i = c) : Uc P c (i + 1) = Nat.lcm (Uc P c i) (P.q i).den := by simp only [Uc]; rw [if_pos h]
theorem Uc_other {P : PD} {i c j : Nat} (h : P.c i = c) (hj : j ≠ c) : Uc P j (i + 1) = Uc P j i := by simp only [Uc]; rw [if_neg (by omega)]

set_option maxRecDepth 20000 in
set_option linter.unusedSimpArgs false in
set_option maxHeartbeats 8000000 in
theorem countVotes_any (p : PV) (k : Nat) (w : World) (hp : p.At w) (hm : p.m ≤ 64) (hn : p.n ≤ 1000000) (hG : GoodS p.K p.S) (hF : FitS p.S k) :
    Calls Try.prog 48 #[p.val] w fun e w' => ∃ gv gu, e = .returned (cntV p gv gu) ∧ Cnt w' p (pdOf p.K p.S) gv gu ∧ w.heap.size ≤ gv ∧ w.heap.size ≤ gu ∧ Chg [] w w' := by
  have c1 : Chg [] (w.alloc (.cells #[.slice p.AK p.n p.cK, .slice p.AS p.m p.cS, .slice p.AT p.t p.cT] 26)) ((w.alloc (.cells #[.slice p.AK p.n p.cK, .slice p.AS p.m p.cS, .slice p.AT p.t p.cT] 26)).alloc (.cells #[.slice none 0 0, .slice none 0 0, .slice none 0 0] 63)) := (Chg.refl _ _).alloc _
  have b1 := (box_p p w).keep0 c1
  have hch := (chg_p p w).then c1
  clear c1
  have hlow := hp.low
  have HSZ := Lib.hid (hF.sz (K := p.K) (by rw [hp.sn]; exact hm))
  have hpm : (pdOf p.K p.S).m = p.m := hp.sn
  have hpn : (pdOf p.K p.S).n = p.n := hp.kn
  have HZ : Hid (ZP k ≤ 65001) := Lib.hid (ZP_le hF.le)
  have HAT : Hid (∀ i, i < p.m → (p.S.getD i stk0).co = (((pdOf p.K p.S).c i : Nat) : Int) ∧ (pdOf p.K p.S).c i < p.n) := Lib.hid fun i hi => by
    have := hG.at_ (i := i) (by rw [hp.sn]; exact hi)
    exact ⟨this.2.1, by rw [← hp.kn]; exact this.2.2.2⟩
  have HV : Hid (∀ i, i < p.m → Val (p.S.getD i stk0).vt ((pdOf p.K p.S).q i) k) := Lib.hid fun i hi => hF.val hG (by rw [hp.sn]; exact hi)
  have HPM := Lib.hid hpm
  have HVN : Hid (∀ i, i < p.m → Vn (pdOf p.K p.S) i = ((pdOf p.K p.S).q i).num.natAbs * (Uc (pdOf p.K p.S) ((pdOf p.K p.S).c i) p.m / ((pdOf p.K p.S).q i).den)) := Lib.hid fun i _ => by unfold Vn Un; rw [hpm]
  obtain ⟨P, HP⟩ := name_it (pdOf p.K p.S)
  rw [HP.out] at HSZ HAT HV HPM HVN ⊢
  replace hp := hp.keep0 hch
  have HKN : Hid (p.K.length = p.n) := Lib.hid hp.kn
  have HSN : Hid (p.S.length = p.m) := Lib.hid hp.sn
  have HLOW := Lib.hid hlow
  clear hG hF hpm hpn hlow HP
  obtain ⟨K, S, T, n, m, tn, AK, AS, AT, cK, cS, cT⟩ := p
  dsimp only at *
  obtain ⟨iS, hiS, hz0, hz1, hzb⟩ := infoS
  go_enter Try.func48, Try.ntmps48
  go_wp2_with fail
  obtain ⟨w0, HW0⟩ := name_it ((w.alloc (.cells #[.slice AK n cK, .slice AS m cS, .slice AT tn cT] 26)).alloc (.cells #[.slice none 0 0, .slice none 0 0, .slice none 0 0] 63))
  have hsz0 : w0.heap.size = w.heap.size + 1 + 1 := by rw [← HW0.out]; simp
  have b2 : Blk3 w0 (w.heap.size + 1) (.slice none 0 0) (.slice none 0 0) (.slice none 0 0) := by
    have := Blk3.alloc (w.alloc (.cells #[.slice AK n cK, .slice AS m cS, .slice AT tn cT] 26)) (.slice none 0 0) (.slice none 0 0) (.slice none 0 0) 63
    rw [World.size_alloc, HW0.out] at this
    exact this
  rw [HW0.out] at b1 hp hch ⊢
  obtain ⟨g0, HG0⟩ := name_it w.heap.size
  rw [HG0.out] at hsz0 HLOW b1 b2 ⊢
  have hg0 : w.heap.size ≤ g0 := Nat.le_of_eq HG0.out
  clear HW0
  go_cut [3] (fun pv wx => ∃ gc gv gu, pv = .pointer (some ⟨gc, 0, none⟩) ∧ Blk3 wx gc (.slice AS m cS) (.slice (some ⟨gv, 0, none⟩) m m) (.slice (some ⟨gu, 0, none⟩) n n) ∧ Fb wx gv m (fun _ => .string ⟨#[]⟩) ∧ Fb wx gu n (fun _ => .string ⟨#[]⟩) ∧ gv ≠ gu ∧ gc ≠ gv ∧ gc ≠ gu ∧ g0 + 2 ≤ gc ∧ g0 + 2 ≤ gv ∧ g0 + 2 ≤ gu ∧ Chg [] w0 wx)
  case first =>
    have hcz : Chg [] w0 w0.drew := (Chg.refl _ _).drew
    have hb := b1.keep0 hcz
    clear b1 b2 hp hch
    refine wp_region_held_drew (S := (fun w' => w'.cell? ⟨g0, 0, none⟩ = some (.slice AK n cK) ∧ w'.cell? ⟨g0, 1, none⟩ = some (.slice AS m cS))) (by kernel_rfl) ?_ (fun hHeld => ?_)
    · exact ⟨hb.c0, hb.c1⟩
    obtain ⟨wz, HWz⟩ := name_it w0.drew
    rw [HWz.out] at hb hcz hHeld ⊢
    refine wpAnyH_take (i := 0) (v := ?_) rfl (by kernel_rfl) (by kernel_rfl) (by kernel_rfl) (fun _ _ _ h => h) (Or.inl ⟨by rfl, ?_⟩) (by assumption) ?_
    rotate_left 1
    · intro w hSw
      try dsimp only at hSw
      go_simp
      try with_reducible rfl
    try simp only [List.getElem_toArray, List.getElem_cons_succ, List.getElem_cons_zero]
    try simp only [Act.put, List.setIfInBounds_toArray, List.set_cons_zero, List.set_cons_succ]
    refine wpAnyH_take (i := 2) (v := ?_) rfl (by kernel_rfl) (by kernel_rfl) (by kernel_rfl) (fun _ _ _ h => h) (Or.inl ⟨by rfl, ?_⟩) (by assumption) ?_
    rotate_left 1
    · intro w hSw
      try dsimp only at hSw
      go_simp
      try with_reducible rfl
    try simp only [List.getElem_toArray, List.getElem_cons_succ, List.getElem_cons_zero]
    try simp only [Act.put, List.setIfInBounds_toArray, List.set_cons_zero, List.set_cons_succ]
    refine wpAnyH_take (i := 6) (v := ?_) rfl (by kernel_rfl) (by kernel_rfl) (by kernel_rfl) (fun _ _ _ h => h) (Or.inl ⟨by rfl, ?_⟩) (by assumption) ?_
    rotate_left 1
    · intro w hSw
      try dsimp only at hSw
      go_simp
      try with_reducible rfl
    try simp only [List.getElem_toArray, List.getElem_cons_succ, List.getElem_cons_zero]
    try simp only [Act.put, List.setIfInBounds_toArray, List.set_cons_zero, List.set_cons_succ]
    refine wpAnyH_take (i := 1) (v := ?_) rfl (by kernel_rfl) (by kernel_rfl) (by kernel_rfl) (fun _ _ _ h => h) (Or.inl ⟨by rfl, ?_⟩) (by assumption) ?_
    rotate_left 1
    · intro w hSw
      try dsimp only at hSw
      go_simp
      try with_reducible rfl
    try simp only [List.getElem_toArray, List.getElem_cons_succ, List.getElem_cons_zero]
    try simp only [Act.put, List.setIfInBounds_toArray, List.set_cons_zero, List.set_cons_succ]
    refine wpAnyH_take (i := 3) (v := ?_) rfl (by kernel_rfl) (by kernel_rfl) (by kernel_rfl) (fun _ _ _ h => h) (Or.inl ⟨by rfl, ?_⟩) (by assumption) ?_
    rotate_left 1
    · intro w hSw
      try dsimp only at hSw
      go_simp
      try with_reducible rfl
    try simp only [List.getElem_toArray, List.getElem_cons_succ, List.getElem_cons_zero]
    try simp only [Act.put, List.setIfInBounds_toArray, List.set_cons_zero, List.set_cons_succ]
    refine wpAnyH_take (i := 7) (v := ?_) rfl (by kernel_rfl) (by kernel_rfl) (by kernel_rfl) (fun _ _ _ h => h) (Or.inl ⟨by rfl, ?_⟩) (by assumption) ?_
    rotate_left 1
    · intro w hSw
      try dsimp only at hSw
      go_simp
      try with_reducible rfl
    try simp only [List.getElem_toArray, List.getElem_cons_succ, List.getElem_cons_zero]
    try simp only [Act.put, List.setIfInBounds_toArray, List.set_cons_zero, List.set_cons_succ]
    refine wpAnyH_take (i := 4) (v := ?_) rfl (by kernel_rfl) (by kernel_rfl) (by kernel_rfl) (fun _ _ _ h => h) (Or.inl ⟨by rfl, ?_⟩) (by assumption) ?_
    rotate_left 1
    · intro w hSw
      try dsimp only at hSw
      go_simp
      try with_reducible rfl
    try simp only [List.getElem_toArray, List.getElem_cons_succ, List.getElem_cons_zero]
    try simp only [Act.put, List.setIfInBounds_toArray, List.set_cons_zero, List.set_cons_succ]
    refine wpAnyH_take (i := 8) (v := ?_) rfl (by kernel_rfl) (by kernel_rfl) (by kernel_rfl) (fun _ _ _ h => h) (Or.inl ⟨by rfl, ?_⟩) (by assumption) ?_
    rotate_left 1
    · intro w hSw
      try dsimp only at hSw
      go_simp
      try with_reducible rfl
    try simp only [List.getElem_toArray, List.getElem_cons_succ, List.getElem_cons_zero]
    try simp only [Act.put, List.setIfInBounds_toArray, List.set_cons_zero, List.set_cons_succ]
    refine wpAnyH_ready (rs := [5, 9, 11]) (by kernel_rfl) (by simp) ?_
    refine AllReadyH.cons (o := _) rfl (fun K' hK => ?_) ?_
    · have hl16 : g0 + 2 ≤ _ := Nat.le_trans (Nat.le_of_eq hsz0.symm) hcz.size
      refine step_makeF _ (by rfl) (.tmp 16) (.tmp 16) 61 (by rfl) 9 iS _ Try.underlying61 hiS hz0 hz1 rfl .i64 .i64 m (by rfl) (by rfl) (by rw [hzb]; omega) (by omega) ?_
      intro wm1 hA c6
      replace hb := hb.keep0 c6
      replace hcz := hcz.then c6
      clear c6
      refine hK.out _ _ ?_ (fun hHeld => ?_)
      · exact ⟨hb.c0, hb.c1⟩
      clear hK K'
      try simp only [Act.put, List.setIfInBounds_toArray, List.set_cons_zero, List.set_cons_succ]
      obtain ⟨gA, HGgA⟩ := name_it wz.heap.size
      rw [HGgA.out] at hA hl16  ⊢
      refine wpAnyH_ready (rs := [9, 11]) (by kernel_rfl) (by simp) ?_
      refine AllReadyH.cons (o := _) rfl (fun K' hK => ?_) ?_
      · have hl20 : g0 + 2 ≤ _ := Nat.le_trans (Nat.le_of_eq hsz0.symm) hcz.size
        refine step_makeF _ (by rfl) (.tmp 20) (.tmp 20) 61 (by rfl) 9 iS _ Try.underlying61 hiS hz0 hz1 rfl .i64 .i64 n (by rfl) (by rfl) (by rw [hzb]; omega) (by omega) ?_
        intro wm2 hB c6
        have hnehBhA : _ := hA.lt
        replace hb := hb.keep0 c6
        replace hA := hA.keep0 c6
        replace hcz := hcz.then c6
        clear c6
        refine hK.out _ _ ?_ (fun hHeld => ?_)
        · exact ⟨hb.c0, hb.c1⟩
        clear hK K'
        try simp only [Act.put, List.setIfInBounds_toArray, List.set_cons_zero, List.set_cons_succ]
        obtain ⟨gB, HGgB⟩ := name_it wm1.heap.size
        rw [HGgB.out] at hB hl20 hnehBhA ⊢
        refine wpAnyH_take (i := 10) (v := ?_) rfl (by kernel_rfl) (by kernel_rfl) (by kernel_rfl) (fun _ _ _ h => h) (Or.inl ⟨by rfl, ?_⟩) (by assumption) ?_
        rotate_left 1
        · intro w hSw
          try dsimp only at hSw
          go_simp
          try with_reducible rfl
        try simp only [List.getElem_toArray, List.getElem_cons_succ, List.getElem_cons_zero]
        try simp only [Act.put, List.setIfInBounds_toArray, List.set_cons_zero, List.set_cons_succ]
        refine wpAnyH_ready (rs := [11]) (by kernel_rfl) (by simp) ?_
        refine AllReadyH.cons (o := _) rfl (fun K' hK => ?_) AllReadyH.nil
        go_simp
        refine hK.out _ _ ?_ (fun hHeld => ?_)
        · exact ⟨(hb.keep0 ((Chg.refl [] _).alloc _)).c0, (hb.keep0 ((Chg.refl [] _).alloc _)).c1⟩
        clear hK K'
        try simp only [Act.put, List.setIfInBounds_toArray, List.set_cons_zero, List.set_cons_succ]
        have bC := Blk3.alloc wm2 (.slice none 0 0) (.slice none 0 0) (.slice none 0 0) 63
        have c9 : Chg [] wm2 (wm2.alloc (.cells #[.slice none 0 0, .slice none 0 0, .slice none 0 0] 63)) := (Chg.refl _ _).alloc _
        have hl3 : _ ≤ wm2.heap.size := Nat.le_trans (Nat.le_of_eq hsz0.symm) hcz.size
        have hnhA : _ < wm2.heap.size := hA.lt
        have hnhB : _ < wm2.heap.size := hB.lt
        replace hb := hb.keep0 c9
        replace hA := hA.keep0 c9
        replace hB := hB.keep0 c9
        replace hcz := hcz.then c9
        clear c9
        obtain ⟨wq3, HWwq3⟩ := name_it (wm2.alloc (.cells #[.slice none 0 0, .slice none 0 0, .slice none 0 0] 63))
        obtain ⟨gC, HGgC⟩ := name_it wm2.heap.size
        rw [HWwq3.out] at hb hA hB bC hcz hHeld ⊢
        rw [HGgC.out] at bC hl3 hnhA hnhB ⊢
        refine wpAnyH_ready (rs := [12]) (by kernel_rfl) (by simp) ?_
        refine AllReadyH.cons (o := _) rfl (fun K' hK => ?_) AllReadyH.nil
        have bCc0 := bC.c0
        have bCc1 := bC.c1
        have bCc2 := bC.c2
        have bCf0 := bC.f0
        have bCf1 := bC.f1
        have bCf2 := bC.f2
        have bCl := bC.lt
        have hgb : g0 ≠ gC := by omega
        have hgA : gA ≠ gC := by omega
        have hgB : gB ≠ gC := by omega
        go_simp
        refine hK.out _ _ ?_ (fun hHeld => ?_)
        · exact ⟨(hb.st2 hgb _ _ _).c0, (hb.st2 hgb _ _ _).c1⟩
        clear hK K'
        try simp only [Act.put, List.setIfInBounds_toArray, List.set_cons_zero, List.set_cons_succ]
        clear bCc0 bCc1 bCc2 bCf0 bCf1 bCf2 bCl
        refine wpAnyH_done (by kernel_rfl) ?_ _
        go_wp2_with fail
        go_meet
        have hA4 := ((hA.sto hgA 0 (.slice AS m cS)).sto hgA 1 (.slice (some ⟨gA, 0, none⟩) m m)).sto hgA 2 (.slice (some ⟨gB, 0, none⟩) n n)
        have hB4 := ((hB.sto hgB 0 (.slice AS m cS)).sto hgB 1 (.slice (some ⟨gA, 0, none⟩) m m)).sto hgB 2 (.slice (some ⟨gB, 0, none⟩) n n)
        exact ⟨gC, gA, gB, rfl, bC.store (.slice AS m cS) (.slice (some ⟨gA, 0, none⟩) m m) (.slice (some ⟨gB, 0, none⟩) n n), hA4, hB4, by omega, by omega, by omega, by omega, by omega, by omega, hcz.store3 (.inr (by omega)) (.slice AS m cS) (.slice (some ⟨gA, 0, none⟩) m m) (.slice (some ⟨gB, 0, none⟩) n n)⟩
      refine AllReadyH.cons (o := _) rfl (fun K' hK => ?_) AllReadyH.nil
      go_simp
      refine hK.out _ _ ?_ (fun hHeld => ?_)
      · exact ⟨(hb.keep0 ((Chg.refl [] _).alloc _)).c0, (hb.keep0 ((Chg.refl [] _).alloc _)).c1⟩
      clear hK K'
      try simp only [Act.put, List.setIfInBounds_toArray, List.set_cons_zero, List.set_cons_succ]
      have bC := Blk3.alloc wm1 (.slice none 0 0) (.slice none 0 0) (.slice none 0 0) 63
      have c9 : Chg [] wm1 (wm1.alloc (.cells #[.slice none 0 0, .slice none 0 0, .slice none 0 0] 63)) := (Chg.refl _ _).alloc _
      have hl3 : _ ≤ wm1.heap.size := Nat.le_trans (Nat.le_of_eq hsz0.symm) hcz.size
      have hnhA : _ < wm1.heap.size := hA.lt
      replace hb := hb.keep0 c9
      replace hA := hA.keep0 c9
      replace hcz := hcz.then c9
      clear c9
      obtain ⟨wq4, HWwq4⟩ := name_it (wm1.alloc (.cells #[.slice none 0 0, .slice none 0 0, .slice none 0 0] 63))
      obtain ⟨gC, HGgC⟩ := name_it wm1.heap.size
      rw [HWwq4.out] at hb hA bC hcz hHeld ⊢
      rw [HGgC.out] at bC hl3 hnhA ⊢
      refine wpAnyH_ready (rs := [9]) (by kernel_rfl) (by simp) ?_
      refine AllReadyH.cons (o := _) rfl (fun K' hK => ?_) AllReadyH.nil
      have hl20 : g0 + 2 ≤ _ := Nat.le_trans (Nat.le_of_eq hsz0.symm) hcz.size
      refine step_makeF _ (by rfl) (.tmp 20) (.tmp 20) 61 (by rfl) 9 iS _ Try.underlying61 hiS hz0 hz1 rfl .i64 .i64 n (by rfl) (by rfl) (by rw [hzb]; omega) (by omega) ?_
      intro wm5 hB c6
      have hnehBhA : _ := hA.lt
      have hnehBbC : _ := bC.lt
      replace hb := hb.keep0 c6
      replace hA := hA.keep0 c6
      replace bC := bC.keep0 c6
      replace hcz := hcz.then c6
      clear c6
      refine hK.out _ _ ?_ (fun hHeld => ?_)
      · exact ⟨hb.c0, hb.c1⟩
      clear hK K'
      try simp only [Act.put, List.setIfInBounds_toArray, List.set_cons_zero, List.set_cons_succ]
      obtain ⟨gB, HGgB⟩ := name_it wq4.heap.size
      rw [HGgB.out] at hB hl20 hnehBhA hnehBbC ⊢
      refine wpAnyH_take (i := 10) (v := ?_) rfl (by kernel_rfl) (by kernel_rfl) (by kernel_rfl) (fun _ _ _ h => h) (Or.inl ⟨by rfl, ?_⟩) (by assumption) ?_
      rotate_left 1
      · intro w hSw
        try dsimp only at hSw
        go_simp
        try with_reducible rfl
      try simp only [List.getElem_toArray, List.getElem_cons_succ, List.getElem_cons_zero]
      try simp only [Act.put, List.setIfInBounds_toArray, List.set_cons_zero, List.set_cons_succ]
      refine wpAnyH_ready (rs := [12]) (by kernel_rfl) (by simp) ?_
      refine AllReadyH.cons (o := _) rfl (fun K' hK => ?_) AllReadyH.nil
      have bCc0 := bC.c0
      have bCc1 := bC.c1
      have bCc2 := bC.c2
      have bCf0 := bC.f0
      have bCf1 := bC.f1
      have bCf2 := bC.f2
      have bCl := bC.lt
      have hgb : g0 ≠ gC := by omega
      have hgA : gA ≠ gC := by omega
      have hgB : gB ≠ gC := by omega
      go_simp
      refine hK.out _ _ ?_ (fun hHeld => ?_)
      · exact ⟨(hb.st2 hgb _ _ _).c0, (hb.st2 hgb _ _ _).c1⟩
      clear hK K'
      try simp only [Act.put, List.setIfInBounds_toArray, List.set_cons_zero, List.set_cons_succ]
      clear bCc0 bCc1 bCc2 bCf0 bCf1 bCf2 bCl
      refine wpAnyH_done (by kernel_rfl) ?_ _
      go_wp2_with fail
      go_meet
      have hA4 := ((hA.sto hgA 0 (.slice AS m cS)).sto hgA 1 (.slice (some ⟨gA, 0, none⟩) m m)).sto hgA 2 (.slice (some ⟨gB, 0, none⟩) n n)
      have hB4 := ((hB.sto hgB 0 (.slice AS m cS)).sto hgB 1 (.slice (some ⟨gA, 0, none⟩) m m)).sto hgB 2 (.slice (some ⟨gB, 0, none⟩) n n)
      exact ⟨gC, gA, gB, rfl, bC.store (.slice AS m cS) (.slice (some ⟨gA, 0, none⟩) m m) (.slice (some ⟨gB, 0, none⟩) n n), hA4, hB4, by omega, by omega, by omega, by omega, by omega, by omega, hcz.store3 (.inr (by omega)) (.slice AS m cS) (.slice (some ⟨gA, 0, none⟩) m m) (.slice (some ⟨gB, 0, none⟩) n n)⟩
    refine AllReadyH.cons (o := _) rfl (fun K' hK => ?_) ?_
    · have hl20 : g0 + 2 ≤ _ := Nat.le_trans (Nat.le_of_eq hsz0.symm) hcz.size
      refine step_makeF _ (by rfl) (.tmp 20) (.tmp 20) 61 (by rfl) 9 iS _ Try.underlying61 hiS hz0 hz1 rfl .i64 .i64 n (by rfl) (by rfl) (by rw [hzb]; omega) (by omega) ?_
      intro wm6 hB c6
      replace hb := hb.keep0 c6
      replace hcz := hcz.then c6
      clear c6
      refine hK.out _ _ ?_ (fun hHeld => ?_)
      · exact ⟨hb.c0, hb.c1⟩
      clear hK K'
      try simp only [Act.put, List.setIfInBounds_toArray, List.set_cons_zero, List.set_cons_succ]
      obtain ⟨gB, HGgB⟩ := name_it wz.heap.size
      rw [HGgB.out] at hB hl20  ⊢
      refine wpAnyH_ready (rs := [5, 11]) (by kernel_rfl) (by simp) ?_
      refine AllReadyH.cons (o := _) rfl (fun K' hK => ?_) ?_
      · have hl16 : g0 + 2 ≤ _ := Nat.le_trans (Nat.le_of_eq hsz0.symm) hcz.size
        refine step_makeF _ (by rfl) (.tmp 16) (.tmp 16) 61 (by rfl) 9 iS _ Try.underlying61 hiS hz0 hz1 rfl .i64 .i64 m (by rfl) (by rfl) (by rw [hzb]; omega) (by omega) ?_
        intro wm7 hA c6
        have hnehAhB : _ := hB.lt
        replace hb := hb.keep0 c6
        replace hB := hB.keep0 c6
        replace hcz := hcz.then c6
        clear c6
        refine hK.out _ _ ?_ (fun hHeld => ?_)
        · exact ⟨hb.c0, hb.c1⟩
        clear hK K'
        try simp only [Act.put, List.setIfInBounds_toArray, List.set_cons_zero, List.set_cons_succ]
        obtain ⟨gA, HGgA⟩ := name_it wm6.heap.size
        rw [HGgA.out] at hA hl16 hnehAhB ⊢
        refine wpAnyH_take (i := 10) (v := ?_) rfl (by kernel_rfl) (by kernel_rfl) (by kernel_rfl) (fun _ _ _ h => h) (Or.inl ⟨by rfl, ?_⟩) (by assumption) ?_
        rotate_left 1
        · intro w hSw
          try dsimp only at hSw
          go_simp
          try with_reducible rfl
        try simp only [List.getElem_toArray, List.getElem_cons_succ, List.getElem_cons_zero]
        try simp only [Act.put, List.setIfInBounds_toArray, List.set_cons_zero, List.set_cons_succ]
        refine wpAnyH_ready (rs := [11]) (by kernel_rfl) (by simp) ?_
        refine AllReadyH.cons (o := _) rfl (fun K' hK => ?_) AllReadyH.nil
        go_simp
        refine hK.out _ _ ?_ (fun hHeld => ?_)
        · exact ⟨(hb.keep0 ((Chg.refl [] _).alloc _)).c0, (hb.keep0 ((Chg.refl [] _).alloc _)).c1⟩
        clear hK K'
        try simp only [Act.put, List.setIfInBounds_toArray, List.set_cons_zero, List.set_cons_succ]
        have bC := Blk3.alloc wm7 (.slice none 0 0) (.slice none 0 0) (.slice none 0 0) 63
        have c9 : Chg [] wm7 (wm7.alloc (.cells #[.slice none 0 0, .slice none 0 0, .slice none 0 0] 63)) := (Chg.refl _ _).alloc _
        have hl3 : _ ≤ wm7.heap.size := Nat.le_trans (Nat.le_of_eq hsz0.symm) hcz.size
        have hnhA : _ < wm7.heap.size := hA.lt
        have hnhB : _ < wm7.heap.size := hB.lt
        replace hb := hb.keep0 c9
        replace hB := hB.keep0 c9
        replace hA := hA.keep0 c9
        replace hcz := hcz.then c9
        clear c9
        obtain ⟨wq8, HWwq8⟩ := name_it (wm7.alloc (.cells #[.slice none 0 0, .slice none 0 0, .slice none 0 0] 63))
        obtain ⟨gC, HGgC⟩ := name_it wm7.heap.size
        rw [HWwq8.out] at hb hB hA bC hcz hHeld ⊢
        rw [HGgC.out] at bC hl3 hnhA hnhB ⊢
        refine wpAnyH_ready (rs := [12]) (by kernel_rfl) (by simp) ?_
        refine AllReadyH.cons (o := _) rfl (fun K' hK => ?_) AllReadyH.nil
        have bCc0 := bC.c0
        have bCc1 := bC.c1
        have bCc2 := bC.c2
        have bCf0 := bC.f0
        have bCf1 := bC.f1
        have bCf2 := bC.f2
        have bCl := bC.lt
        have hgb : g0 ≠ gC := by omega
        have hgA : gA ≠ gC := by omega
        have hgB : gB ≠ gC := by omega
        go_simp
        refine hK.out _ _ ?_ (fun hHeld => ?_)
        · exact ⟨(hb.st2 hgb _ _ _).c0, (hb.st2 hgb _ _ _).c1⟩
        clear hK K'
        try simp only [Act.put, List.setIfInBounds_toArray, List.set_cons_zero, List.set_cons_succ]
        clear bCc0 bCc1 bCc2 bCf0 bCf1 bCf2 bCl
        refine wpAnyH_done (by kernel_rfl) ?_ _
        go_wp2_with fail
        go_meet
        have hA4 := ((hA.sto hgA 0 (.slice AS m cS)).sto hgA 1 (.slice (some ⟨gA, 0, none⟩) m m)).sto hgA 2 (.slice (some ⟨gB, 0, none⟩) n n)
        have hB4 := ((hB.sto hgB 0 (.slice AS m cS)).sto hgB 1 (.slice (some ⟨gA, 0, none⟩) m m)).sto hgB 2 (.slice (some ⟨gB, 0, none⟩) n n)
        exact ⟨gC, gA, gB, rfl, bC.store (.slice AS m cS) (.slice (some ⟨gA, 0, none⟩) m m) (.slice (some ⟨gB, 0, none⟩) n n), hA4, hB4, by omega, by omega, by omega, by omega, by omega, by omega, hcz.store3 (.inr (by omega)) (.slice AS m cS) (.slice (some ⟨gA, 0, none⟩) m m) (.slice (some ⟨gB, 0, none⟩) n n)⟩
      refine AllReadyH.cons (o := _) rfl (fun K' hK => ?_) AllReadyH.nil
      go_simp
      refine hK.out _ _ ?_ (fun hHeld => ?_)
      · exact ⟨(hb.keep0 ((Chg.refl [] _).alloc _)).c0, (hb.keep0 ((Chg.refl [] _).alloc _)).c1⟩
      clear hK K'
      try simp only [Act.put, List.setIfInBounds_toArray, List.set_cons_zero, List.set_cons_succ]
      have bC := Blk3.alloc wm6 (.slice none 0 0) (.slice none 0 0) (.slice none 0 0) 63
      have c9 : Chg [] wm6 (wm6.alloc (.cells #[.slice none 0 0, .slice none 0 0, .slice none 0 0] 63)) := (Chg.refl _ _).alloc _
      have hl3 : _ ≤ wm6.heap.size := Nat.le_trans (Nat.le_of_eq hsz0.symm) hcz.size
      have hnhB : _ < wm6.heap.size := hB.lt
      replace hb := hb.keep0 c9
      replace hB := hB.keep0 c9
      replace hcz := hcz.then c9
      clear c9
      obtain ⟨wq9, HWwq9⟩ := name_it (wm6.alloc (.cells #[.slice none 0 0, .slice none 0 0, .slice none 0 0] 63))
      obtain ⟨gC, HGgC⟩ := name_it wm6.heap.size
      rw [HWwq9.out] at hb hB bC hcz hHeld ⊢
      rw [HGgC.out] at bC hl3 hnhB ⊢
      refine wpAnyH_ready (rs := [5]) (by kernel_rfl) (by simp) ?_
      refine AllReadyH.cons (o := _) rfl (fun K' hK => ?_) AllReadyH.nil
      have hl16 : g0 + 2 ≤ _ := Nat.le_trans (Nat.le_of_eq hsz0.symm) hcz.size
      refine step_makeF _ (by rfl) (.tmp 16) (.tmp 16) 61 (by rfl) 9 iS _ Try.underlying61 hiS hz0 hz1 rfl .i64 .i64 m (by rfl) (by rfl) (by rw [hzb]; omega) (by omega) ?_
      intro wm10 hA c6
      have hnehAhB : _ := hB.lt
      have hnehAbC : _ := bC.lt
      replace hb := hb.keep0 c6
      replace hB := hB.keep0 c6
      replace bC := bC.keep0 c6
      replace hcz := hcz.then c6
      clear c6
      refine hK.out _ _ ?_ (fun hHeld => ?_)
      · exact ⟨hb.c0, hb.c1⟩
      clear hK K'
      try simp only [Act.put, List.setIfInBounds_toArray, List.set_cons_zero, List.set_cons_succ]
      obtain ⟨gA, HGgA⟩ := name_it wq9.heap.size
      rw [HGgA.out] at hA hl16 hnehAhB hnehAbC ⊢
      refine wpAnyH_take (i := 10) (v := ?_) rfl (by kernel_rfl) (by kernel_rfl) (by kernel_rfl) (fun _ _ _ h => h) (Or.inl ⟨by rfl, ?_⟩) (by assumption) ?_
      rotate_left 1
      · intro w hSw
        try dsimp only at hSw
        go_simp
        try with_reducible rfl
      try simp only [List.getElem_toArray, List.getElem_cons_succ, List.getElem_cons_zero]
      try simp only [Act.put, List.setIfInBounds_toArray, List.set_cons_zero, List.set_cons_succ]
      refine wpAnyH_ready (rs := [12]) (by kernel_rfl) (by simp) ?_
      refine AllReadyH.cons (o := _) rfl (fun K' hK => ?_) AllReadyH.nil
      have bCc0 := bC.c0
      have bCc1 := bC.c1
      have bCc2 := bC.c2
      have bCf0 := bC.f0
      have bCf1 := bC.f1
      have bCf2 := bC.f2
      have bCl := bC.lt
      have hgb : g0 ≠ gC := by omega
      have hgA : gA ≠ gC := by omega
      have hgB : gB ≠ gC := by omega
      go_simp
      refine hK.out _ _ ?_ (fun hHeld => ?_)
      · exact ⟨(hb.st2 hgb _ _ _).c0, (hb.st2 hgb _ _ _).c1⟩
      clear hK K'
      try simp only [Act.put, List.setIfInBounds_toArray, List.set_cons_zero, List.set_cons_succ]
      clear bCc0 bCc1 bCc2 bCf0 bCf1 bCf2 bCl
      refine wpAnyH_done (by kernel_rfl) ?_ _
      go_wp2_with fail
      go_meet
      have hA4 := ((hA.sto hgA 0 (.slice AS m cS)).sto hgA 1 (.slice (some ⟨gA, 0, none⟩) m m)).sto hgA 2 (.slice (some ⟨gB, 0, none⟩) n n)
      have hB4 := ((hB.sto hgB 0 (.slice AS m cS)).sto hgB 1 (.slice (some ⟨gA, 0, none⟩) m m)).sto hgB 2 (.slice (some ⟨gB, 0, none⟩) n n)
      exact ⟨gC, gA, gB, rfl, bC.store (.slice AS m cS) (.slice (some ⟨gA, 0, none⟩) m m) (.slice (some ⟨gB, 0, none⟩) n n), hA4, hB4, by omega, by omega, by omega, by omega, by omega, by omega, hcz.store3 (.inr (by omega)) (.slice AS m cS) (.slice (some ⟨gA, 0, none⟩) m m) (.slice (some ⟨gB, 0, none⟩) n n)⟩
    refine AllReadyH.cons (o := _) rfl (fun K' hK => ?_) AllReadyH.nil
    go_simp
    refine hK.out _ _ ?_ (fun hHeld => ?_)
    · exact ⟨(hb.keep0 ((Chg.refl [] _).alloc _)).c0, (hb.keep0 ((Chg.refl [] _).alloc _)).c1⟩
    clear hK K'
    try simp only [Act.put, List.setIfInBounds_toArray, List.set_cons_zero, List.set_cons_succ]
    have bC := Blk3.alloc wz (.slice none 0 0) (.slice none 0 0) (.slice none 0 0) 63
    have c9 : Chg [] wz (wz.alloc (.cells #[.slice none 0 0, .slice none 0 0, .slice none 0 0] 63)) := (Chg.refl _ _).alloc _
    have hl3 : _ ≤ wz.heap.size := Nat.le_trans (Nat.le_of_eq hsz0.symm) hcz.size
    replace hb := hb.keep0 c9
    replace hcz := hcz.then c9
    clear c9
    obtain ⟨wq11, HWwq11⟩ := name_it (wz.alloc (.cells #[.slice none 0 0, .slice none 0 0, .slice none 0 0] 63))
    obtain ⟨gC, HGgC⟩ := name_it wz.heap.size
    rw [HWwq11.out] at hb bC hcz hHeld ⊢
    rw [HGgC.out] at bC hl3 ⊢
    refine wpAnyH_ready (rs := [5, 9]) (by kernel_rfl) (by simp) ?_
    refine AllReadyH.cons (o := _) rfl (fun K' hK => ?_) ?_
    · have hl16 : g0 + 2 ≤ _ := Nat.le_trans (Nat.le_of_eq hsz0.symm) hcz.size
      refine step_makeF _ (by rfl) (.tmp 16) (.tmp 16) 61 (by rfl) 9 iS _ Try.underlying61 hiS hz0 hz1 rfl .i64 .i64 m (by rfl) (by rfl) (by rw [hzb]; omega) (by omega) ?_
      intro wm12 hA c6
      have hnehAbC : _ := bC.lt
      replace hb := hb.keep0 c6
      replace bC := bC.keep0 c6
      replace hcz := hcz.then c6
      clear c6
      refine hK.out _ _ ?_ (fun hHeld => ?_)
      · exact ⟨hb.c0, hb.c1⟩
      clear hK K'
      try simp only [Act.put, List.setIfInBounds_toArray, List.set_cons_zero, List.set_cons_succ]
      obtain ⟨gA, HGgA⟩ := name_it wq11.heap.size
      rw [HGgA.out] at hA hl16 hnehAbC ⊢
      refine wpAnyH_ready (rs := [9]) (by kernel_rfl) (by simp) ?_
      refine AllReadyH.cons (o := _) rfl (fun K' hK => ?_) AllReadyH.nil
      have hl20 : g0 + 2 ≤ _ := Nat.le_trans (Nat.le_of_eq hsz0.symm) hcz.size
      refine step_makeF _ (by rfl) (.tmp 20) (.tmp 20) 61 (by rfl) 9 iS _ Try.underlying61 hiS hz0 hz1 rfl .i64 .i64 n (by rfl) (by rfl) (by rw [hzb]; omega) (by omega) ?_
      intro wm13 hB c6
      have hnehBhA : _ := hA.lt
      have hnehBbC : _ := bC.lt
      replace hb := hb.keep0 c6
      replace bC := bC.keep0 c6
      replace hA := hA.keep0 c6
      replace hcz := hcz.then c6
      clear c6
      refine hK.out _ _ ?_ (fun hHeld => ?_)
      · exact ⟨hb.c0, hb.c1⟩
      clear hK K'
      try simp only [Act.put, List.setIfInBounds_toArray, List.set_cons_zero, List.set_cons_succ]
      obtain ⟨gB, HGgB⟩ := name_it wm12.heap.size
      rw [HGgB.out] at hB hl20 hnehBhA hnehBbC ⊢
      refine wpAnyH_take (i := 10) (v := ?_) rfl (by kernel_rfl) (by kernel_rfl) (by kernel_rfl) (fun _ _ _ h => h) (Or.inl ⟨by rfl, ?_⟩) (by assumption) ?_
      rotate_left 1
      · intro w hSw
        try dsimp only at hSw
        go_simp
        try with_reducible rfl
      try simp only [List.getElem_toArray, List.getElem_cons_succ, List.getElem_cons_zero]
      try simp only [Act.put, List.setIfInBounds_toArray, List.set_cons_zero, List.set_cons_succ]
      refine wpAnyH_ready (rs := [12]) (by kernel_rfl) (by simp) ?_
      refine AllReadyH.cons (o := _) rfl (fun K' hK => ?_) AllReadyH.nil
      have bCc0 := bC.c0
      have bCc1 := bC.c1
      have bCc2 := bC.c2
      have bCf0 := bC.f0
      have bCf1 := bC.f1
      have bCf2 := bC.f2
      have bCl := bC.lt
      have hgb : g0 ≠ gC := by omega
      have hgA : gA ≠ gC := by omega
      have hgB : gB ≠ gC := by omega
      go_simp
      refine hK.out _ _ ?_ (fun hHeld => ?_)
      · exact ⟨(hb.st2 hgb _ _ _).c0, (hb.st2 hgb _ _ _).c1⟩
      clear hK K'
      try simp only [Act.put, List.setIfInBounds_toArray, List.set_cons_zero, List.set_cons_succ]
      clear bCc0 bCc1 bCc2 bCf0 bCf1 bCf2 bCl
      refine wpAnyH_done (by kernel_rfl) ?_ _
      go_wp2_with fail
      go_meet
      have hA4 := ((hA.sto hgA 0 (.slice AS m cS)).sto hgA 1 (.slice (some ⟨gA, 0, none⟩) m m)).sto hgA 2 (.slice (some ⟨gB, 0, none⟩) n n)
      have hB4 := ((hB.sto hgB 0 (.slice AS m cS)).sto hgB 1 (.slice (some ⟨gA, 0, none⟩) m m)).sto hgB 2 (.slice (some ⟨gB, 0, none⟩) n n)
      exact ⟨gC, gA, gB, rfl, bC.store (.slice AS m cS) (.slice (some ⟨gA, 0, none⟩) m m) (.slice (some ⟨gB, 0, none⟩) n n), hA4, hB4, by omega, by omega, by omega, by omega, by omega, by omega, hcz.store3 (.inr (by omega)) (.slice AS m cS) (.slice (some ⟨gA, 0, none⟩) m m) (.slice (some ⟨gB, 0, none⟩) n n)⟩
    refine AllReadyH.cons (o := _) rfl (fun K' hK => ?_) AllReadyH.nil
    have hl20 : g0 + 2 ≤ _ := Nat.le_trans (Nat.le_of_eq hsz0.symm) hcz.size
    refine step_makeF _ (by rfl) (.tmp 20) (.tmp 20) 61 (by rfl) 9 iS _ Try.underlying61 hiS hz0 hz1 rfl .i64 .i64 n (by rfl) (by rfl) (by rw [hzb]; omega) (by omega) ?_
    intro wm14 hB c6
    have hnehBbC : _ := bC.lt
    replace hb := hb.keep0 c6
    replace bC := bC.keep0 c6
    replace hcz := hcz.then c6
    clear c6
    refine hK.out _ _ ?_ (fun hHeld => ?_)
    · exact ⟨hb.c0, hb.c1⟩
    clear hK K'
    try simp only [Act.put, List.setIfInBounds_toArray, List.set_cons_zero, List.set_cons_succ]
    obtain ⟨gB, HGgB⟩ := name_it wq11.heap.size
    rw [HGgB.out] at hB hl20 hnehBbC ⊢
    refine wpAnyH_ready (rs := [5]) (by kernel_rfl) (by simp) ?_
    refine AllReadyH.cons (o := _) rfl (fun K' hK => ?_) AllReadyH.nil
    have hl16 : g0 + 2 ≤ _ := Nat.le_trans (Nat.le_of_eq hsz0.symm) hcz.size
    refine step_makeF _ (by rfl) (.tmp 16) (.tmp 16) 61 (by rfl) 9 iS _ Try.underlying61 hiS hz0 hz1 rfl .i64 .i64 m (by rfl) (by rfl) (by rw [hzb]; omega) (by omega) ?_
    intro wm15 hA c6
    have hnehAhB : _ := hB.lt
    have hnehAbC : _ := bC.lt
    replace hb := hb.keep0 c6
    replace bC := bC.keep0 c6
    replace hB := hB.keep0 c6
    replace hcz := hcz.then c6
    clear c6
    refine hK.out _ _ ?_ (fun hHeld => ?_)
    · exact ⟨hb.c0, hb.c1⟩
    clear hK K'
    try simp only [Act.put, List.setIfInBounds_toArray, List.set_cons_zero, List.set_cons_succ]
    obtain ⟨gA, HGgA⟩ := name_it wm14.heap.size
    rw [HGgA.out] at hA hl16 hnehAhB hnehAbC ⊢
    refine wpAnyH_take (i := 10) (v := ?_) rfl (by kernel_rfl) (by kernel_rfl) (by kernel_rfl) (fun _ _ _ h => h) (Or.inl ⟨by rfl, ?_⟩) (by assumption) ?_
    rotate_left 1
    · intro w hSw
      try dsimp only at hSw
      go_simp
      try with_reducible rfl
    try simp only [List.getElem_toArray, List.getElem_cons_succ, List.getElem_cons_zero]
    try simp only [Act.put, List.setIfInBounds_toArray, List.set_cons_zero, List.set_cons_succ]
    refine wpAnyH_ready (rs := [12]) (by kernel_rfl) (by simp) ?_
    refine AllReadyH.cons (o := _) rfl (fun K' hK => ?_) AllReadyH.nil
    have bCc0 := bC.c0
    have bCc1 := bC.c1
    have bCc2 := bC.c2
    have bCf0 := bC.f0
    have bCf1 := bC.f1
    have bCf2 := bC.f2
    have bCl := bC.lt
    have hgb : g0 ≠ gC := by omega
    have hgA : gA ≠ gC := by omega
    have hgB : gB ≠ gC := by omega
    go_simp
    refine hK.out _ _ ?_ (fun hHeld => ?_)
    · exact ⟨(hb.st2 hgb _ _ _).c0, (hb.st2 hgb _ _ _).c1⟩
    clear hK K'
    try simp only [Act.put, List.setIfInBounds_toArray, List.set_cons_zero, List.set_cons_succ]
    clear bCc0 bCc1 bCc2 bCf0 bCf1 bCf2 bCl
    refine wpAnyH_done (by kernel_rfl) ?_ _
    go_wp2_with fail
    go_meet
    have hA4 := ((hA.sto hgA 0 (.slice AS m cS)).sto hgA 1 (.slice (some ⟨gA, 0, none⟩) m m)).sto hgA 2 (.slice (some ⟨gB, 0, none⟩) n n)
    have hB4 := ((hB.sto hgB 0 (.slice AS m cS)).sto hgB 1 (.slice (some ⟨gA, 0, none⟩) m m)).sto hgB 2 (.slice (some ⟨gB, 0, none⟩) n n)
    exact ⟨gC, gA, gB, rfl, bC.store (.slice AS m cS) (.slice (some ⟨gA, 0, none⟩) m m) (.slice (some ⟨gB, 0, none⟩) n n), hA4, hB4, by omega, by omega, by omega, by omega, by omega, by omega, hcz.store3 (.inr (by omega)) (.slice AS m cS) (.slice (some ⟨gA, 0, none⟩) m m) (.slice (some ⟨gB, 0, none⟩) n n)⟩
  case rest =>
    obtain ⟨gc, gv, gu, rfl, b3, hV, hU, hne1, hne2, hne3, hgc, hgv, hgu, hc9⟩ := hcut
    replace b1 := b1.keep0 hc9
    replace b2 := b2.keep0 hc9
    replace hp := hp.keep0 hc9
    replace hch := hch.then hc9
    clear hc9
    have b3c2 := b3.c2
    go_wp2_with fail
    clear b3c2
    go_loopw [26] (fun iv wr => ∃ i : Nat, i ≤ n ∧ iv = .int .i64 i ∧ Fb wr gu n (fun j => .string (f1 i j)) ∧ Fb wr gv m (fun _ => .string ⟨#[]⟩) ∧ Blk3 wr gc (.slice AS m cS) (.slice (some ⟨gv, 0, none⟩) m m) (.slice (some ⟨gu, 0, none⟩) n n) ∧ Blk3 wr g0 (.slice AK n cK) (.slice AS m cS) (.slice AT tn cT) ∧ Blk3 wr (g0 + 1) (.slice none 0 0) (.slice none 0 0) (.slice none 0 0) ∧ PV.At ⟨K, S, T, n, m, tn, AK, AS, AT, cK, cS, cT⟩ wr ∧ Chg [] w wr) (fun iv _ => n - (intOf iv).toNat)
    case atStart => exact ⟨0, Nat.zero_le _, rfl, hU, hV, b3, b1, b2, hp, hch⟩
    case round =>
      clear hU hV b1 b2 b3 hp hch
      obtain ⟨i, hi, rfl, hU, hV, b3, b1, b2, hp, hch⟩ := hrel
      have b3c2 := b3.c2
      by_cases hlt : i < n
      · have p0 := hU.cell i hlt
        have p1 := hU.frz i hlt
        have hgl := hU.lt
        have hUS : Fb (wr.setCell ⟨gu, i, none⟩ (.string ⟨#[1]⟩)) gu n (fun j => .string (f1 (i + 1) j)) :=
          hU.store hlt _ _ (by simp [f1]) (fun j _ e => by unfold f1; by_cases h : j < i <;> simp [h, show (j < i + 1) = (j < i) by simp; omega])
        have hVS := hV.sto hne1 i (.string ⟨#[1]⟩)
        have b1S := b1.sto1 (show g0 ≠ gu by omega) i (.string ⟨#[1]⟩)
        have b2S := b2.sto1 (show g0 + 1 ≠ gu by omega) i (.string ⟨#[1]⟩)
        have b3S := b3.sto1 hne3 i (.string ⟨#[1]⟩)
        have hpS := hp.sto1 HLOW.out (show g0 ≤ gu by omega) i (.string ⟨#[1]⟩)
        have hchS := hch.setCell (p := ⟨gu, i, none⟩) (.inr (show w.heap.size ≤ gu by omega)) (.string ⟨#[1]⟩)
        have i1 : (0 : Int) ≤ (i : Int) := by omega
        have i2 : (i : Int) < (n : Int) := by omega
        clear hU hV b1 b2 b3 hp hch
        go_wp2_with fail
        go_roundw
        case rel => exact ⟨i + 1, by omega, by go_num, hUS, hVS, b3S, b1S, b2S, hpS, hchS⟩
        case measure => simp [intOf]; omega
      · obtain rfl : i = n := by omega
        have hU2 : Fb wr gu i (fun j => .string (nb (Uc P j 0))) := hU.congr fun j hj => by
          show Value.string (f1 i j) = .string (nb 1)
          rw [nb_one]; unfold f1; rw [if_pos hj]
        have b1c1 := b1.c1
        clear hU hlt hi b3c2
        go_wp2_with fail
        clear b1c1
        go_loopw [37] (fun iv wr => ∃ j : Nat, j ≤ m ∧ iv = .int .i64 j ∧ Fb wr gu i (fun t => .string (nb (Uc P t j))) ∧ Fb wr gv m (fun _ => .string ⟨#[]⟩) ∧ Blk3 wr gc (.slice AS m cS) (.slice (some ⟨gv, 0, none⟩) m m) (.slice (some ⟨gu, 0, none⟩) i i) ∧ Blk3 wr g0 (.slice AK i cK) (.slice AS m cS) (.slice AT tn cT) ∧ Blk3 wr (g0 + 1) (.slice none 0 0) (.slice none 0 0) (.slice none 0 0) ∧ PV.At ⟨K, S, T, i, m, tn, AK, AS, AT, cK, cS, cT⟩ wr ∧ Chg [] w wr) (fun iv _ => m - (intOf iv).toNat)
        case atStart => exact ⟨0, Nat.zero_le _, rfl, hU2, hV, b3, b1, b2, hp, hch⟩
        case round =>
          clear hU2 hV b1 b2 b3 hp hch
          obtain ⟨j, hj, rfl, hU, hV, b3, b1, b2, hp, hch⟩ := hrel
          by_cases hlt : j < m
          · obtain ⟨g, o, rfl, hgl⟩ := hp.s.form (by rw [HSN.out]; exact Nat.lt_of_le_of_lt (Nat.zero_le _) hlt)
            have hgl0 : g < g0 := by
              obtain ⟨g', o', e, h⟩ := HLOW.out.s (by rw [HSN.out]; exact Nat.lt_of_le_of_lt (Nat.zero_le _) hlt)
              simp only [Option.some.injEq, Addr.mk.injEq, and_true] at e
              omega
            have hcx := hp.s.at_ (j := j) (by rw [HSN.out]; exact hlt)
            have HA := Lib.hid (HAT.out j hlt)
            have HVL := Lib.hid (HV.out j hlt)
            obtain ⟨t, HT⟩ := name_it (S.getD j stk0)
            rw [HT.out] at hcx HA HVL
            obtain ⟨c, HC⟩ := name_it (P.c j)
            have HA1 := Lib.hid HA.out.1
            have hcn := HA.out.2
            rw [HC.out] at hcn HA1
            obtain ⟨q, HQ⟩ := name_it (P.q j)
            rw [HQ.out] at HVL
            have HLC := Lib.hid (fun w => plcm_any (Uc P c j) q.den (ZP k) w (HSZ.out.u c j (by rw [HPM.out]; exact hj)) (by rw [← HQ.out]; exact HSZ.out.d j (by rw [HPM.out]; exact hlt)) q.den_nz (by have := HZ.out; omega))
            have HST : Hid (Uc P c (j + 1) = Nat.lcm (Uc P c j) q.den) := Lib.hid (by rw [Uc_step HC.out, HQ.out])
            rw [← HST.out] at HLC
            have HOT : Hid (∀ t, t ≠ c → Uc P t (j + 1) = Uc P t j) := Lib.hid fun t ht => Uc_other HC.out ht
            have HDN := Lib.hid (fun w => pden_any t.vt q k w HVL.out)
            have hcu : C1 wr gu c (.string (nb (Uc P c j))) := ⟨hU.cell c hcn, hU.lt⟩
            obtain ⟨X, HX⟩ := name_it (nb (Uc P c j))
            obtain ⟨Y, HY⟩ := name_it (nb (Uc P c (j + 1)))
            obtain ⟨D, HD⟩ := name_it (nb q.den)
            rw [HX.out, HD.out, HY.out] at HLC
            rw [HD.out] at HDN
            rw [HX.out] at hcu
            obtain ⟨a0, a1, a2, a3, a4, -⟩ := hcx
            rw [HA1.out] at a1
            have c4 : Chg [] wr (wr.alloc (.cells #[.int .i64 t.ow, .int .i64 (c : Int), .bool t.vt.neg, .string t.vt.num, .string t.vt.den] 36)) := (Chg.refl _ _).alloc _
            have b6 := BlkStk.alloc wr (.int .i64 t.ow) (.int .i64 (c : Int)) (.bool t.vt.neg) (.string t.vt.num) (.string t.vt.den) 36
            have hg6 : gu < wr.heap.size := hU.lt
            replace hU := hU.keep0 c4
            replace hV := hV.keep0 c4
            replace b1 := b1.keep0 c4
            replace b2 := b2.keep0 c4
            replace b3 := b3.keep0 c4
            replace hp := hp.keep0 c4
            replace hcu := hcu.keep0 c4
            replace hch := hch.then c4
            clear c4
            go_wp2_with fail
            obtain ⟨w5, HW5⟩ := name_it (wr.alloc (.cells #[.int .i64 t.ow, .int .i64 (c : Int), .bool t.vt.neg, .string t.vt.num, .string t.vt.den] 36))
            obtain ⟨g6, HG6⟩ := name_it wr.heap.size
            rw [HW5.out] at hU hV b1 b2 b3 hp hcu b6 hch ⊢
            rw [HG6.out] at b6 hg6 ⊢
            have c8 : Chg [] w5 w5.drew := (Chg.refl _ _).drew
            replace hU := hU.keep0 c8
            replace hV := hV.keep0 c8
            replace b1 := b1.keep0 c8
            replace b2 := b2.keep0 c8
            replace b3 := b3.keep0 c8
            replace hp := hp.keep0 c8
            replace hcu := hcu.keep0 c8
            replace b6 := b6.keep0 c8
            have hcz := hch.then c8
            clear c8 a0 a1 a2 a3 a4 hch HW5 HG6 HA HA1
            have i1 : (0 : Int) ≤ (c : Int) := by omega
            have i2 : (c : Int) < (i : Int) := by omega
            refine wp_region_held_drew (S := (fun w' => w'.cell? ⟨gc, 2, none⟩ = some (.slice (some ⟨gu, 0, none⟩) i i) ∧ w'.cell? ⟨g6, 1, none⟩ = some (.int .i64 (c : Int)) ∧ w'.cell? ⟨g6, 2, none⟩ = some (.bool t.vt.neg) ∧ w'.cell? ⟨g6, 3, none⟩ = some (.string t.vt.num) ∧ w'.cell? ⟨g6, 4, none⟩ = some (.string t.vt.den))) (by kernel_rfl) ?_ (fun hHeld => ?_)
            · exact ⟨b3.c2, b6.c1, b6.c2, b6.c3, b6.c4⟩
            obtain ⟨wz, HWz⟩ := name_it w5.drew
            rw [HWz.out] at b1 b2 b3 b6 hU hV hp hcu hcz hHeld ⊢
            refine wpAnyH_take (i := 0) (v := ?_) rfl (by kernel_rfl) (by kernel_rfl) (by kernel_rfl) (fun _ _ _ h => h) (Or.inl ⟨by rfl, ?_⟩) (by assumption) ?_
            rotate_left 1
            · intro w hSw
              try dsimp only at hSw
              go_simp
              try with_reducible rfl
            try simp only [List.getElem_toArray, List.getElem_cons_succ, List.getElem_cons_zero]
            try simp only [Act.put, List.setIfInBounds_toArray, List.set_cons_zero, List.set_cons_succ]
            refine wpAnyH_take (i := 2) (v := ?_) rfl (by kernel_rfl) (by kernel_rfl) (by kernel_rfl) (fun _ _ _ h => h) (Or.inl ⟨by rfl, ?_⟩) (by assumption) ?_
            rotate_left 1
            · intro w hSw
              try dsimp only at hSw
              go_simp
              try with_reducible rfl
            try simp only [List.getElem_toArray, List.getElem_cons_succ, List.getElem_cons_zero]
            try simp only [Act.put, List.setIfInBounds_toArray, List.set_cons_zero, List.set_cons_succ]
            refine wpAnyH_take (i := 4) (v := ?_) rfl (by kernel_rfl) (by kernel_rfl) (by kernel_rfl) (fun _ _ _ h => h) (Or.inl ⟨by rfl, ?_⟩) (by assumption) ?_
            rotate_left 1
            · intro w hSw
              try dsimp only at hSw
              go_simp
              try with_reducible rfl
            try simp only [List.getElem_toArray, List.getElem_cons_succ, List.getElem_cons_zero]
            try simp only [Act.put, List.setIfInBounds_toArray, List.set_cons_zero, List.set_cons_succ]
            refine wpAnyH_take (i := 6) (v := ?_) rfl (by kernel_rfl) (by kernel_rfl) (by kernel_rfl) (fun _ _ _ h => h) (Or.inl ⟨by rfl, ?_⟩) (by assumption) ?_
            rotate_left 1
            · intro w hSw
              try dsimp only at hSw
              go_simp
              try with_reducible rfl
            try simp only [List.getElem_toArray, List.getElem_cons_succ, List.getElem_cons_zero]
            try simp only [Act.put, List.setIfInBounds_toArray, List.set_cons_zero, List.set_cons_succ]
            refine wpAnyH_take (i := 10) (v := ?_) rfl (by kernel_rfl) (by kernel_rfl) (by kernel_rfl) (fun _ _ _ h => h) (Or.inl ⟨by rfl, ?_⟩) (by assumption) ?_
            rotate_left 1
            · intro w hSw
              try dsimp only at hSw
              go_simp
              try with_reducible rfl
            try simp only [List.getElem_toArray, List.getElem_cons_succ, List.getElem_cons_zero]
            try simp only [Act.put, List.setIfInBounds_toArray, List.set_cons_zero, List.set_cons_succ]
            refine wpAnyH_take (i := 1) (v := ?_) rfl (by kernel_rfl) (by kernel_rfl) (by kernel_rfl) (fun _ _ _ h => h) (Or.inl ⟨by rfl, ?_⟩) (by assumption) ?_
            rotate_left 1
            · intro w hSw
              try dsimp only at hSw
              go_simp
              try with_reducible rfl
            try simp only [List.getElem_toArray, List.getElem_cons_succ, List.getElem_cons_zero]
            try simp only [Act.put, List.setIfInBounds_toArray, List.set_cons_zero, List.set_cons_succ]
            refine wpAnyH_take (i := 3) (v := ?_) rfl (by kernel_rfl) (by kernel_rfl) (by kernel_rfl) (fun _ _ _ h => h) (Or.inl ⟨by rfl, ?_⟩) (by assumption) ?_
            rotate_left 1
            · intro w hSw
              try dsimp only at hSw
              go_simp
              try with_reducible rfl
            try simp only [List.getElem_toArray, List.getElem_cons_succ, List.getElem_cons_zero]
            try simp only [Act.put, List.setIfInBounds_toArray, List.set_cons_zero, List.set_cons_succ]
            refine wpAnyH_take (i := 5) (v := ?_) rfl (by kernel_rfl) (by kernel_rfl) (by kernel_rfl) (fun _ _ _ h => h) (Or.inl ⟨by rfl, ?_⟩) (by assumption) ?_
            rotate_left 1
            · intro w hSw
              try dsimp only at hSw
              go_simp
              try with_reducible rfl
            try simp only [List.getElem_toArray, List.getElem_cons_succ, List.getElem_cons_zero]
            try simp only [Act.put, List.setIfInBounds_toArray, List.set_cons_zero, List.set_cons_succ]
            refine wpAnyH_take (i := 7) (v := ?_) rfl (by kernel_rfl) (by kernel_rfl) (by kernel_rfl) (fun _ _ _ h => h) (Or.inl ⟨by rfl, ?_⟩) (by assumption) ?_
            rotate_left 1
            · intro w hSw
              try dsimp only at hSw
              go_simp
              try with_reducible rfl
            try simp only [List.getElem_toArray, List.getElem_cons_succ, List.getElem_cons_zero]
            try simp only [Act.put, List.setIfInBounds_toArray, List.set_cons_zero, List.set_cons_succ]
            refine wpAnyH_take (i := 11) (v := ?_) rfl (by kernel_rfl) (by kernel_rfl) (by kernel_rfl) (fun _ _ _ h => h) (Or.inl ⟨by rfl, ?_⟩) (by assumption) ?_
            rotate_left 1
            · intro w hSw
              try dsimp only at hSw
              go_simp
              try with_reducible rfl
            try simp only [List.getElem_toArray, List.getElem_cons_succ, List.getElem_cons_zero]
            try simp only [Act.put, List.setIfInBounds_toArray, List.set_cons_zero, List.set_cons_succ]
            refine wpAnyH_take (i := 8) (v := ?_) rfl (by kernel_rfl) (by kernel_rfl) (by kernel_rfl) (fun _ _ _ h => h) (Or.inl ⟨by rfl, ?_⟩) (by assumption) ?_
            rotate_left 1
            · intro w hSw
              try dsimp only at hSw
              go_simp
              try with_reducible rfl
            try simp only [List.getElem_toArray, List.getElem_cons_succ, List.getElem_cons_zero]
            try simp only [Act.put, List.setIfInBounds_toArray, List.set_cons_zero, List.set_cons_succ]
            refine wpAnyH_ready (rs := [9, 12]) (by kernel_rfl) (by simp) ?_
            refine AllReadyH.cons (o := _) rfl (fun K' hK => ?_) ?_
            · have hcu0 := hcu.c0
              go_simp
              refine hK.out _ _ ?_ (fun hHeld => ?_)
              · exact ⟨b3.c2, b6.c1, b6.c2, b6.c3, b6.c4⟩
              clear hK K'
              try simp only [Act.put, List.setIfInBounds_toArray, List.set_cons_zero, List.set_cons_succ]
              clear hcu0
              refine wpAnyH_ready (rs := [12]) (by kernel_rfl) (by simp) ?_
              refine AllReadyH.cons (o := _) rfl (fun K' hK => ?_) AllReadyH.nil
              go_simp
              refine (HDN.out _).mono ?_
              rintro e9 wk1 ⟨rfl, c6⟩
              replace b1 := b1.keep0 c6
              replace b2 := b2.keep0 c6
              replace b3 := b3.keep0 c6
              replace b6 := b6.keep0 c6
              replace hU := hU.keep0 c6
              replace hV := hV.keep0 c6
              replace hp := hp.keep0 c6
              replace hcu := hcu.keep0 c6
              replace hcz := hcz.then c6
              clear c6
              go_wp2_with fail
              refine hK.out _ _ ?_ (fun hHeld => ?_)
              · exact ⟨b3.c2, b6.c1, b6.c2, b6.c3, b6.c4⟩
              clear hK K'
              try simp only [Act.put, List.setIfInBounds_toArray, List.set_cons_zero, List.set_cons_succ]
              refine wpAnyH_ready (rs := [13]) (by kernel_rfl) (by simp) ?_
              refine AllReadyH.cons (o := _) rfl (fun K' hK => ?_) AllReadyH.nil
              go_simp
              refine (HLC.out _).mono ?_
              rintro e9 wk2 ⟨rfl, c6⟩
              replace b1 := b1.keep0 c6
              replace b2 := b2.keep0 c6
              replace b3 := b3.keep0 c6
              replace b6 := b6.keep0 c6
              replace hU := hU.keep0 c6
              replace hV := hV.keep0 c6
              replace hp := hp.keep0 c6
              replace hcu := hcu.keep0 c6
              replace hcz := hcz.then c6
              clear c6
              go_wp2_with fail
              refine hK.out _ _ ?_ (fun hHeld => ?_)
              · exact ⟨b3.c2, b6.c1, b6.c2, b6.c3, b6.c4⟩
              clear hK K'
              try simp only [Act.put, List.setIfInBounds_toArray, List.set_cons_zero, List.set_cons_succ]
              refine wpAnyH_take (i := 14) (v := ?_) rfl (by kernel_rfl) (by kernel_rfl) (by kernel_rfl) (fun _ _ _ h => h) (Or.inl ⟨by rfl, ?_⟩) (by assumption) ?_
              rotate_left 1
              · intro w hSw
                try dsimp only at hSw
                go_simp
                try with_reducible rfl
              try simp only [List.getElem_toArray, List.getElem_cons_succ, List.getElem_cons_zero]
              try simp only [Act.put, List.setIfInBounds_toArray, List.set_cons_zero, List.set_cons_succ]
              refine wpAnyH_ready (rs := [15]) (by kernel_rfl) (by simp) ?_
              refine AllReadyH.cons (o := _) rfl (fun K' hK => ?_) AllReadyH.nil
              have hcu0 := hcu.c0
              have hcf := hU.frz c hcn
              have n3 : gc ≠ gu := hne3
              have n6 : g6 ≠ gu := by omega
              go_simp
              refine hK.out _ _ ?_ (fun hHeld => ?_)
              · exact ⟨(b3.sto1 n3 c _).c2, (b6.sto1 n6 c _).c1, (b6.sto1 n6 c _).c2, (b6.sto1 n6 c _).c3, (b6.sto1 n6 c _).c4⟩
              clear hK K'
              try simp only [Act.put, List.setIfInBounds_toArray, List.set_cons_zero, List.set_cons_succ]
              refine wpAnyH_done (by kernel_rfl) ?_ _
              have hUS := hU.store hcn (.string Y) (fun t => .string (nb (Uc P t (j + 1)))) (by rw [HY.out]) (fun t _ e => by rw [HOT.out t e])
              have hVS := hV.sto hne1 c (.string Y)
              have b1S := b1.sto1 (show g0 ≠ gu by omega) c (.string Y)
              have b2S := b2.sto1 (show g0 + 1 ≠ gu by omega) c (.string Y)
              have b3S := b3.sto1 hne3 c (.string Y)
              have hpS := hp.sto1 HLOW.out (show g0 ≤ gu by omega) c (.string Y)
              have hchS := hcz.setCell (p := ⟨gu, c, none⟩) (.inr (show w.heap.size ≤ gu by have := HG0.out; omega)) (.string Y)
              clear hU hV b1 b2 b3 hp hcz hcu hcu0 hcf
              go_wp2_with fail
              go_roundw
              case rel => exact ⟨j + 1, by omega, by go_num, hUS, hVS, b3S, b1S, b2S, hpS, hchS⟩
              case measure => simp [intOf]; omega
            refine AllReadyH.cons (o := _) rfl (fun K' hK => ?_) AllReadyH.nil
            go_simp
            refine (HDN.out _).mono ?_
            rintro e9 wk3 ⟨rfl, c6⟩
            replace b1 := b1.keep0 c6
            replace b2 := b2.keep0 c6
            replace b3 := b3.keep0 c6
            replace b6 := b6.keep0 c6
            replace hU := hU.keep0 c6
            replace hV := hV.keep0 c6
            replace hp := hp.keep0 c6
            replace hcu := hcu.keep0 c6
            replace hcz := hcz.then c6
            clear c6
            go_wp2_with fail
            refine hK.out _ _ ?_ (fun hHeld => ?_)
            · exact ⟨b3.c2, b6.c1, b6.c2, b6.c3, b6.c4⟩
            clear hK K'
            try simp only [Act.put, List.setIfInBounds_toArray, List.set_cons_zero, List.set_cons_succ]
            refine wpAnyH_ready (rs := [9]) (by kernel_rfl) (by simp) ?_
            refine AllReadyH.cons (o := _) rfl (fun K' hK => ?_) AllReadyH.nil
            have hcu0 := hcu.c0
            go_simp
            refine hK.out _ _ ?_ (fun hHeld => ?_)
            · exact ⟨b3.c2, b6.c1, b6.c2, b6.c3, b6.c4⟩
            clear hK K'
            try simp only [Act.put, List.setIfInBounds_toArray, List.set_cons_zero, List.set_cons_succ]
            clear hcu0
            refine wpAnyH_ready (rs := [13]) (by kernel_rfl) (by simp) ?_
            refine AllReadyH.cons (o := _) rfl (fun K' hK => ?_) AllReadyH.nil
            go_simp
            refine (HLC.out _).mono ?_
            rintro e9 wk4 ⟨rfl, c6⟩
            replace b1 := b1.keep0 c6
            replace b2 := b2.keep0 c6
            replace b3 := b3.keep0 c6
            replace b6 := b6.keep0 c6
            replace hU := hU.keep0 c6
            replace hV := hV.keep0 c6
            replace hp := hp.keep0 c6
            replace hcu := hcu.keep0 c6
            replace hcz := hcz.then c6
            clear c6
            go_wp2_with fail
            refine hK.out _ _ ?_ (fun hHeld => ?_)
            · exact ⟨b3.c2, b6.c1, b6.c2, b6.c3, b6.c4⟩
            clear hK K'
            try simp only [Act.put, List.setIfInBounds_toArray, List.set_cons_zero, List.set_cons_succ]
            refine wpAnyH_take (i := 14) (v := ?_) rfl (by kernel_rfl) (by kernel_rfl) (by kernel_rfl) (fun _ _ _ h => h) (Or.inl ⟨by rfl, ?_⟩) (by assumption) ?_
            rotate_left 1
            · intro w hSw
              try dsimp only at hSw
              go_simp
              try with_reducible rfl
            try simp only [List.getElem_toArray, List.getElem_cons_succ, List.getElem_cons_zero]
            try simp only [Act.put, List.setIfInBounds_toArray, List.set_cons_zero, List.set_cons_succ]
            refine wpAnyH_ready (rs := [15]) (by kernel_rfl) (by simp) ?_
            refine AllReadyH.cons (o := _) rfl (fun K' hK => ?_) AllReadyH.nil
            have hcu0 := hcu.c0
            have hcf := hU.frz c hcn
            have n3 : gc ≠ gu := hne3
            have n6 : g6 ≠ gu := by omega
            go_simp
            refine hK.out _ _ ?_ (fun hHeld => ?_)
            · exact ⟨(b3.sto1 n3 c _).c2, (b6.sto1 n6 c _).c1, (b6.sto1 n6 c _).c2, (b6.sto1 n6 c _).c3, (b6.sto1 n6 c _).c4⟩
            clear hK K'
            try simp only [Act.put, List.setIfInBounds_toArray, List.set_cons_zero, List.set_cons_succ]
            refine wpAnyH_done (by kernel_rfl) ?_ _
            have hUS := hU.store hcn (.string Y) (fun t => .string (nb (Uc P t (j + 1)))) (by rw [HY.out]) (fun t _ e => by rw [HOT.out t e])
            have hVS := hV.sto hne1 c (.string Y)
            have b1S := b1.sto1 (show g0 ≠ gu by omega) c (.string Y)
            have b2S := b2.sto1 (show g0 + 1 ≠ gu by omega) c (.string Y)
            have b3S := b3.sto1 hne3 c (.string Y)
            have hpS := hp.sto1 HLOW.out (show g0 ≤ gu by omega) c (.string Y)
            have hchS := hcz.setCell (p := ⟨gu, c, none⟩) (.inr (show w.heap.size ≤ gu by have := HG0.out; omega)) (.string Y)
            clear hU hV b1 b2 b3 hp hcz hcu hcu0 hcf
            go_wp2_with fail
            go_roundw
            case rel => exact ⟨j + 1, by omega, by go_num, hUS, hVS, b3S, b1S, b2S, hpS, hchS⟩
            case measure => simp [intOf]; omega
          · obtain rfl : j = m := by omega
            have hV2 : Fb wr gv j (fun t => .string (nb (v1 P 0 t))) := hV.congr fun t _ => by
              show Value.string ⟨#[]⟩ = .string (nb (if t < 0 then Vn P t else 0))
              rw [if_neg (by omega), nb_zero]
            have b1c1 := b1.c1
            clear hV hlt hj
            go_wp2_with fail
            clear b1c1
            go_loopw [60] (fun iv wr => ∃ l : Nat, l ≤ j ∧ iv = .int .i64 l ∧ Fb wr gu i (fun t => .string (nb (Uc P t j))) ∧ Fb wr gv j (fun t => .string (nb (v1 P l t))) ∧ Blk3 wr gc (.slice AS j cS) (.slice (some ⟨gv, 0, none⟩) j j) (.slice (some ⟨gu, 0, none⟩) i i) ∧ Blk3 wr g0 (.slice AK i cK) (.slice AS j cS) (.slice AT tn cT) ∧ Blk3 wr (g0 + 1) (.slice none 0 0) (.slice none 0 0) (.slice none 0 0) ∧ PV.At ⟨K, S, T, i, j, tn, AK, AS, AT, cK, cS, cT⟩ wr ∧ Chg [] w wr) (fun iv _ => j - (intOf iv).toNat)
            case atStart => exact ⟨0, Nat.zero_le _, rfl, hU, hV2, b3, b1, b2, hp, hch⟩
            case round =>
              clear hU hV2 b1 b2 b3 hp hch
              obtain ⟨l, hl, rfl, hU, hV, b3, b1, b2, hp, hch⟩ := hrel
              by_cases hlt : l < j
              · obtain ⟨g, o, rfl, hgl⟩ := hp.s.form (by rw [HSN.out]; exact Nat.lt_of_le_of_lt (Nat.zero_le _) hlt)
                have hcx := hp.s.at_ (j := l) (by rw [HSN.out]; exact hlt)
                have HA := Lib.hid (HAT.out l hlt)
                have HVL := Lib.hid (HV.out l hlt)
                have HVE := Lib.hid (HVN.out l hlt)
                obtain ⟨t, HT⟩ := name_it (S.getD l stk0)
                rw [HT.out] at hcx HA HVL
                obtain ⟨c, HC⟩ := name_it (P.c l)
                have HA1 := Lib.hid HA.out.1
                have hcn := HA.out.2
                rw [HC.out] at hcn HA1 HVE
                obtain ⟨q, HQ⟩ := name_it (P.q l)
                rw [HQ.out] at HVL HVE
                have hzk := HZ.out
                have HDN := Lib.hid (fun w => pden_any t.vt q k w HVL.out)
                have HUS : Hid ((nb (Uc P c j)).size ≤ ZP k) := Lib.hid (nb_size (HSZ.out.u c j (by rw [HPM.out]; exact Nat.le_refl _)))
                have HDS : Hid ((nb q.den).size ≤ ZP k) := Lib.hid (nb_size (by rw [← HQ.out]; exact HSZ.out.d l (by rw [HPM.out]; exact hlt)))
                have HDV : Hid (∀ w, Calls Try.prog 68 #[.string (nb (Uc P c j)), .string (nb q.den)] w fun e w' => ∃ r, e = .returned (.tuple #[.string (nb (Uc P c j / q.den)), .string r, .bool true]) ∧ Chg [] w w') := Lib.hid fun w => by
                  refine (Divide_any (nb (Uc P c j)) (nb q.den) w (by have := HUS.out; omega) (by have := HDS.out; omega) (by rw [val_nb]; exact q.den_nz)).mono ?_
                  rintro e w' ⟨a, r, rfl, hq, _, hc⟩
                  rw [val_nb, val_nb] at hq
                  exact ⟨r, by rw [nb_of hq], hc⟩
                have HPS : Hid ((nb (Uc P c j / q.den)).size ≤ ZP k) := Lib.hid (nb_size (Nat.lt_of_le_of_lt (Nat.div_le_self _ _) (HSZ.out.u c j (by rw [HPM.out]; exact Nat.le_refl _))))
                have HML : Hid (∀ w, Calls Try.prog 69 #[.string t.vt.num, .string (nb (Uc P c j / q.den))] w fun e w' => e = .returned (.string (nb (Vn P l))) ∧ Chg [] w w') := Lib.hid fun w => by
                  refine (multiply_any t.vt.num (nb (Uc P c j / q.den)) w (by have := HVL.out.n1; have := HSZ.out; have : k ≤ ZP k := by unfold ZP; omega
                                                                              omega) (by have := HPS.out; omega)).mono ?_
                  rintro e w' ⟨s, rfl, hs, hc⟩
                  rw [val_nb, Is_val HVL.out.enc.num, ← HVE.out] at hs
                  exact ⟨by rw [nb_of hs], hc⟩
                have hcu : C1 wr gu c (.string (nb (Uc P c j))) := ⟨hU.cell c hcn, hU.lt⟩
                obtain ⟨X, HX⟩ := name_it (nb (Uc P c j))
                obtain ⟨D, HD⟩ := name_it (nb q.den)
                obtain ⟨R, HR⟩ := name_it (nb (Uc P c j / q.den))
                obtain ⟨V, HVV⟩ := name_it (nb (Vn P l))
                rw [HX.out, HD.out, HR.out] at HDV
                rw [HD.out] at HDN
                rw [HR.out, HVV.out] at HML
                rw [HX.out] at hcu
                obtain ⟨a0, a1, a2, a3, a4, -⟩ := hcx
                rw [HA1.out] at a1
                have c4 : Chg [] wr (wr.alloc (.cells #[.int .i64 t.ow, .int .i64 (c : Int), .bool t.vt.neg, .string t.vt.num, .string t.vt.den] 36)) := (Chg.refl _ _).alloc _
                have b8 := BlkStk.alloc wr (.int .i64 t.ow) (.int .i64 (c : Int)) (.bool t.vt.neg) (.string t.vt.num) (.string t.vt.den) 36
                have hg8 : gv < wr.heap.size := hV.lt
                replace hU := hU.keep0 c4
                replace hV := hV.keep0 c4
                replace b1 := b1.keep0 c4
                replace b2 := b2.keep0 c4
                replace b3 := b3.keep0 c4
                replace hp := hp.keep0 c4
                replace hcu := hcu.keep0 c4
                replace hch := hch.then c4
                clear c4
                have i1 : (0 : Int) ≤ (c : Int) := by omega
                have i2 : (c : Int) < (i : Int) := by omega
                have j1 : (0 : Int) ≤ (l : Int) := by omega
                have j2 : (l : Int) < (j : Int) := by omega
                go_wp2_with fail
                obtain ⟨w5, HW5⟩ := name_it (wr.alloc (.cells #[.int .i64 t.ow, .int .i64 (c : Int), .bool t.vt.neg, .string t.vt.num, .string t.vt.den] 36))
                obtain ⟨g8, HG8⟩ := name_it wr.heap.size
                rw [HW5.out] at hU hV b1 b2 b3 hp hcu b8 hch ⊢
                rw [HG8.out] at b8 hg8 ⊢
                have c8 : Chg [] w5 w5.drew := (Chg.refl _ _).drew
                replace hU := hU.keep0 c8
                replace hV := hV.keep0 c8
                replace b1 := b1.keep0 c8
                replace b2 := b2.keep0 c8
                replace b3 := b3.keep0 c8
                replace hp := hp.keep0 c8
                replace hcu := hcu.keep0 c8
                replace b8 := b8.keep0 c8
                replace hch := hch.then c8
                clear c8 a0 a1 a2 a3 a4 HW5 HG8 HA HA1
                go_region_held3 (fun w' => w'.cell? ⟨gc, 2, none⟩ = some (.slice (some ⟨gu, 0, none⟩) i i) ∧ w'.cell? ⟨g8, 1, none⟩ = some (.int .i64 (c : Int)) ∧ w'.cell? ⟨g8, 2, none⟩ = some (.bool t.vt.neg) ∧ w'.cell? ⟨g8, 3, none⟩ = some (.string t.vt.num) ∧ w'.cell? ⟨g8, 4, none⟩ = some (.string t.vt.den) ∧ w'.cell? ⟨gu, c, none⟩ = some (.string X)) (first | exact ⟨b3.c2, b8.c1, b8.c2, b8.c3, b8.c4, hcu.c0⟩) (first
                  | (go_at_call 67
                     refine (HDN.out _).mono ?_
                     rintro e w6 ⟨rfl, c6⟩
                     replace hU := hU.keep0 c6
                     replace hV := hV.keep0 c6
                     replace b1 := b1.keep0 c6
                     replace b2 := b2.keep0 c6
                     replace b3 := b3.keep0 c6
                     replace hp := hp.keep0 c6
                     replace hcu := hcu.keep0 c6
                     replace b8 := b8.keep0 c6
                     replace hch := hch.then c6
                     clear c6)
                  | (go_at_call 68
                     refine (HDV.out _).mono ?_
                     rintro e w7 ⟨r7, rfl, c6⟩
                     replace hU := hU.keep0 c6
                     replace hV := hV.keep0 c6
                     replace b1 := b1.keep0 c6
                     replace b2 := b2.keep0 c6
                     replace b3 := b3.keep0 c6
                     replace hp := hp.keep0 c6
                     replace hcu := hcu.keep0 c6
                     replace b8 := b8.keep0 c6
                     replace hch := hch.then c6
                     clear c6)
                  | fail)
                all_goals
                  go_wp2_with fail
                  have c8 : Chg [] w7 w7.drew := (Chg.refl _ _).drew
                  replace hU := hU.keep0 c8
                  replace hV := hV.keep0 c8
                  replace b1 := b1.keep0 c8
                  replace b2 := b2.keep0 c8
                  replace b3 := b3.keep0 c8
                  replace hp := hp.keep0 c8
                  replace b8 := b8.keep0 c8
                  have hcz := hch.then c8
                  clear c8 hch hcu
                  refine wp_region_held_drew (S := (fun w' => w'.cell? ⟨gc, 1, none⟩ = some (.slice (some ⟨gv, 0, none⟩) j j) ∧ w'.cell? ⟨g8, 3, none⟩ = some (.string t.vt.num))) (by kernel_rfl) ?_ (fun hHeld => ?_)
                  · exact ⟨b3.c1, b8.c3⟩
                  obtain ⟨wz, HWz⟩ := name_it w7.drew
                  rw [HWz.out] at b1 b2 b3 b8 hU hV hp hcz hHeld ⊢
                  refine wpAnyH_take (i := 0) (v := ?_) rfl (by kernel_rfl) (by kernel_rfl) (by kernel_rfl) (fun _ _ _ h => h) (Or.inl ⟨by rfl, ?_⟩) (by assumption) ?_
                  rotate_left 1
                  · intro w hSw
                    try dsimp only at hSw
                    go_simp
                    try with_reducible rfl
                  try simp only [List.getElem_toArray, List.getElem_cons_succ, List.getElem_cons_zero]
                  try simp only [Act.put, List.setIfInBounds_toArray, List.set_cons_zero, List.set_cons_succ]
                  refine wpAnyH_take (i := 2) (v := ?_) rfl (by kernel_rfl) (by kernel_rfl) (by kernel_rfl) (fun _ _ _ h => h) (Or.inl ⟨by rfl, ?_⟩) (by assumption) ?_
                  rotate_left 1
                  · intro w hSw
                    try dsimp only at hSw
                    go_simp
                    try with_reducible rfl
                  try simp only [List.getElem_toArray, List.getElem_cons_succ, List.getElem_cons_zero]
                  try simp only [Act.put, List.setIfInBounds_toArray, List.set_cons_zero, List.set_cons_succ]
                  refine wpAnyH_take (i := 3) (v := ?_) rfl (by kernel_rfl) (by kernel_rfl) (by kernel_rfl) (fun _ _ _ h => h) (Or.inl ⟨by rfl, ?_⟩) (by assumption) ?_
                  rotate_left 1
                  · intro w hSw
                    try dsimp only at hSw
                    go_simp
                    try with_reducible rfl
                  try simp only [List.getElem_toArray, List.getElem_cons_succ, List.getElem_cons_zero]
                  try simp only [Act.put, List.setIfInBounds_toArray, List.set_cons_zero, List.set_cons_succ]
                  refine wpAnyH_take (i := 6) (v := ?_) rfl (by kernel_rfl) (by kernel_rfl) (by kernel_rfl) (fun _ _ _ h => h) (Or.inl ⟨by rfl, ?_⟩) (by assumption) ?_
                  rotate_left 1
                  · intro w hSw
                    try dsimp only at hSw
                    go_simp
                    try with_reducible rfl
                  try simp only [List.getElem_toArray, List.getElem_cons_succ, List.getElem_cons_zero]
                  try simp only [Act.put, List.setIfInBounds_toArray, List.set_cons_zero, List.set_cons_succ]
                  refine wpAnyH_take (i := 1) (v := ?_) rfl (by kernel_rfl) (by kernel_rfl) (by kernel_rfl) (fun _ _ _ h => h) (Or.inl ⟨by rfl, ?_⟩) (by assumption) ?_
                  rotate_left 1
                  · intro w hSw
                    try dsimp only at hSw
                    go_simp
                    try with_reducible rfl
                  try simp only [List.getElem_toArray, List.getElem_cons_succ, List.getElem_cons_zero]
                  try simp only [Act.put, List.setIfInBounds_toArray, List.set_cons_zero, List.set_cons_succ]
                  refine wpAnyH_take (i := 4) (v := ?_) rfl (by kernel_rfl) (by kernel_rfl) (by kernel_rfl) (fun _ _ _ h => h) (Or.inl ⟨by rfl, ?_⟩) (by assumption) ?_
                  rotate_left 1
                  · intro w hSw
                    try dsimp only at hSw
                    go_simp
                    try with_reducible rfl
                  try simp only [List.getElem_toArray, List.getElem_cons_succ, List.getElem_cons_zero]
                  try simp only [Act.put, List.setIfInBounds_toArray, List.set_cons_zero, List.set_cons_succ]
                  refine wpAnyH_take (i := 5) (v := ?_) rfl (by kernel_rfl) (by kernel_rfl) (by kernel_rfl) (fun _ _ _ h => h) (Or.inl ⟨by rfl, ?_⟩) (by assumption) ?_
                  rotate_left 1
                  · intro w hSw
                    try dsimp only at hSw
                    go_simp
                    try with_reducible rfl
                  try simp only [List.getElem_toArray, List.getElem_cons_succ, List.getElem_cons_zero]
                  try simp only [Act.put, List.setIfInBounds_toArray, List.set_cons_zero, List.set_cons_succ]
                  refine wpAnyH_ready (rs := [7]) (by kernel_rfl) (by simp) ?_
                  refine AllReadyH.cons (o := _) rfl (fun K' hK => ?_) AllReadyH.nil
                  go_simp
                  refine (HML.out _).mono ?_
                  rintro e9 wk1 ⟨rfl, c6⟩
                  replace b1 := b1.keep0 c6
                  replace b2 := b2.keep0 c6
                  replace b3 := b3.keep0 c6
                  replace b8 := b8.keep0 c6
                  replace hU := hU.keep0 c6
                  replace hV := hV.keep0 c6
                  replace hp := hp.keep0 c6
                  replace hcz := hcz.then c6
                  clear c6
                  go_wp2_with fail
                  refine hK.out _ _ ?_ (fun hHeld => ?_)
                  · exact ⟨b3.c1, b8.c3⟩
                  clear hK K'
                  try simp only [Act.put, List.setIfInBounds_toArray, List.set_cons_zero, List.set_cons_succ]
                  refine wpAnyH_take (i := 8) (v := ?_) rfl (by kernel_rfl) (by kernel_rfl) (by kernel_rfl) (fun _ _ _ h => h) (Or.inl ⟨by rfl, ?_⟩) (by assumption) ?_
                  rotate_left 1
                  · intro w hSw
                    try dsimp only at hSw
                    go_simp
                    try with_reducible rfl
                  try simp only [List.getElem_toArray, List.getElem_cons_succ, List.getElem_cons_zero]
                  try simp only [Act.put, List.setIfInBounds_toArray, List.set_cons_zero, List.set_cons_succ]
                  refine wpAnyH_ready (rs := [9]) (by kernel_rfl) (by simp) ?_
                  refine AllReadyH.cons (o := _) rfl (fun K' hK => ?_) AllReadyH.nil
                  have hcv0 := hV.cell l hlt
                  have hcf := hV.frz l hlt
                  have n3 : gc ≠ gv := hne2
                  have n8 : g8 ≠ gv := by omega
                  go_simp
                  refine hK.out _ _ ?_ (fun hHeld => ?_)
                  · exact ⟨(b3.sto1 n3 l _).c1, (b8.sto1 n8 l _).c3⟩
                  clear hK K'
                  try simp only [Act.put, List.setIfInBounds_toArray, List.set_cons_zero, List.set_cons_succ]
                  refine wpAnyH_done (by kernel_rfl) ?_ _
                  have hVS := hV.store hlt (.string V) (fun t => .string (nb (v1 P (l + 1) t))) (by show Value.string (nb (if l < l + 1 then Vn P l else 0)) = _; rw [if_pos (by omega), HVV.out]) (fun t _ e => by show Value.string (nb (if t < l + 1 then Vn P t else 0)) = .string (nb (if t < l then Vn P t else 0)); by_cases h : t < l <;> simp [h, show (t < l + 1) = (t < l) by simp; omega])
                  have hUS := hU.sto (Ne.symm hne1) l (.string V)
                  have b1S := b1.sto1 (show g0 ≠ gv by omega) l (.string V)
                  have b2S := b2.sto1 (show g0 + 1 ≠ gv by omega) l (.string V)
                  have b3S := b3.sto1 hne2 l (.string V)
                  have hpS := hp.sto1 HLOW.out (show g0 ≤ gv by omega) l (.string V)
                  have hchS := hcz.setCell (p := ⟨gv, l, none⟩) (.inr (show w.heap.size ≤ gv by have := HG0.out; omega)) (.string V)
                  clear hU hV b1 b2 b3 hp hcz hcv0 hcf
                  go_wp2_with fail
                  go_roundw
                  case rel => exact ⟨l + 1, by omega, by go_num, hUS, hVS, b3S, b1S, b2S, hpS, hchS⟩
                  case measure => simp [intOf]; omega
              · obtain rfl : l = j := by omega
                have hV3 : Fb wr gv l (fun t => .string (nb (Vn P t))) := hV.congr fun t ht => by
                  show Value.string (nb (if t < l then Vn P t else 0)) = _
                  rw [if_pos ht]
                have hU3 : Fb wr gu i (fun t => .string (nb (Un P t))) := hU.congr fun t _ => by unfold Un; rw [HPM.out]
                have hne4 : gv ≠ g0 + 1 := by omega
                have hne5 : gu ≠ g0 + 1 := by omega
                have S := b2.store (.slice AS l cS) (.slice (some ⟨gv, 0, none⟩) l l) (.slice (some ⟨gu, 0, none⟩) i i)
                have hV4 := ((hV3.sto hne4 0 (.slice AS l cS)).sto hne4 1 (.slice (some ⟨gv, 0, none⟩) l l)).sto hne4 2 (.slice (some ⟨gu, 0, none⟩) i i)
                have hU4 := ((hU3.sto hne5 0 (.slice AS l cS)).sto hne5 1 (.slice (some ⟨gv, 0, none⟩) l l)).sto hne5 2 (.slice (some ⟨gu, 0, none⟩) i i)
                have hchS := hch.store3 (.inr (show w.heap.size ≤ g0 + 1 by have := HG0.out; omega)) (.slice AS l cS) (.slice (some ⟨gv, 0, none⟩) l l) (.slice (some ⟨gu, 0, none⟩) i i)
                have b3c0 := b3.c0
                have b3c1 := b3.c1
                have b3c2 := b3.c2
                have b2c0 := b2.c0
                have b2c1 := b2.c1
                have b2c2 := b2.c2
                have b2f0 := b2.f0
                have b2f1 := b2.f1
                have b2f2 := b2.f2
                have b2l := b2.lt
                go_wp2_with fail
                exact bodyPost_ret (v := .agg #[.slice AS l cS, .slice (some ⟨gv, 0, none⟩) l l, .slice (some ⟨gu, 0, none⟩) i i]) (by simp [results, Try.results48, go_sem, S.c0, S.c1, S.c2]) rfl ⟨gv, gu, rfl, ⟨hV4, hU4⟩, by have := HG0.out; omega, by have := HG0.out; omega, hchS⟩
end Go.Proofs.Ytgdpcpbmjgaliaa
