/-
  Currency: the law CurrencyBack.
-/
import Derived.Test.YtkdcffcgedhllaaKL3
namespace Go.Proofs.Ytkdcffcgedhllaa
open Go.RowKit Nd

theorem cv_zero {l : List Qt} {f t : ByteArray} {d : Int} : cvE l f t d = 0 ↔ rtE l f d = 0 ∧ rtE l t d = 0 := by
  unfold cvE
  by_cases h : rtE l f d = 0
  · rw [if_pos h]; exact ⟨fun g => ⟨h, g⟩, fun g => g.2⟩
  · rw [if_neg h]; exact ⟨fun g => absurd g h, fun g => absurd g.1 h⟩
theorem back_math {l : List Qt} {k : Nat} (hf : FitQ l k) (p : Rat) (a b c : ByteArray) (d : Int) :
    (cvE l a b d ≠ 0 → cvE l b a d ≠ 0) ∧ (cvE l a b d = 0 → cvE l b a d = 0 ∧ cvV (cvV p l a b d) l b a d = p) ∧ (cvE l a b d = 0 → cvE l a c d = 0 → cvE l c b d = 0 ∧ cvV (cvV p l a c d) l c b d = cvV p l a b d) := by
  refine ⟨fun h g => h (cv_zero.2 (cv_zero.1 g).symm), fun h => ?_, fun h g => ?_⟩
  · obtain ⟨ha, hb⟩ := cv_zero.1 h
    have pa := (rt_val hf ha).2
    have pb := (rt_val hf hb).2
    refine ⟨cv_zero.2 ⟨hb, ha⟩, ?_⟩
    rw [(cv_ok hb ha).2, (cv_ok ha hb).2]
    generalize ratOf (rtV l a d) = x at *
    generalize ratOf (rtV l b d) = y at *
    have hx : x ≠ 0 := by grind
    have hy : y ≠ 0 := by grind
    rw [Rat.div_mul_cancel hy, Rat.mul_div_cancel hx]
  · obtain ⟨ha, hb⟩ := cv_zero.1 h
    obtain ⟨_, hc⟩ := cv_zero.1 g
    have pc := (rt_val hf hc).2
    refine ⟨cv_zero.2 ⟨hc, hb⟩, ?_⟩
    rw [(cv_ok hc hb).2, (cv_ok ha hc).2, (cv_ok ha hb).2]
    generalize ratOf (rtV l c d) = x at *
    have hx : x ≠ 0 := by grind
    rw [Rat.div_mul_cancel hx]
/-- The context of CurrencyBack behind a region. -/
structure KB5 (w0 wx : World) (v e : Value) (E : Int) (q : Rat) (k : Nat) : Prop where
  out : ∃ (g : Nat) (z : Q3), v = .pointer (some ⟨g, 0, none⟩) ∧ e = .int .i64 E ∧ Val z q k ∧ Blk3 wx g (.bool z.neg) (.string z.num) (.string z.den)
  ch : Chg [] w0 wx

set_option maxRecDepth 20000 in
set_option linter.unusedSimpArgs false in
set_option maxHeartbeats 8000000 in
theorem lqback_any (L : List T3) (am a b c dd : Int) (n : Nat) (A : Option Addr) (cap : Nat) (w : World) (ham : 0 ≤ am ∧ am ≤ 65535) (ha : 0 ≤ a ∧ a ≤ 255) (hb : 0 ≤ b ∧ b ≤ 255) (hc : 0 ≤ c ∧ c ≤ 255) (hdd : 0 ≤ dd ∧ dd ≤ 255) (hn : L.length = n) (hr : ∀ x ∈ L, InT3 x) (hx : ST3 w A L) :
    Calls Try.prog 9 #[.slice A n cap, .int .u16 am, .int .u8 a, .int .u8 b, .int .u8 c, .int .u8 dd] w fun e w' => e = .returned (.bool true) ∧ Chg [] w w' := by
  have hch : Chg [] w w := Chg.refl _ _
  have HN := Lib.hid hn
  have HR := Lib.hid hr
  obtain ⟨d, HD⟩ := name_it (dd % 50)
  have fd1 : dd % 50 = d := HD.out
  have fd2 : dd.tmod 50 = d := by rw [Int.tmod_eq_emod_of_nonneg hdd.1]; exact HD.out
  have hd1 : 0 ≤ d := by omega
  have hd2 : d ≤ 49 := by omega
  have HAM := Lib.hid ham
  have HCA : Hid (∀ w, _) := Lib.hid (fun w => code_any a w ha.1 ha.2)
  have HCB : Hid (∀ w, _) := Lib.hid (fun w => code_any b w hb.1 hb.2)
  have HCC : Hid (∀ w, _) := Lib.hid (fun w => code_any c w hc.1 hc.2)
  obtain ⟨ca, HCA2⟩ := name_it (codeQ a)
  obtain ⟨cb, HCB2⟩ := name_it (codeQ b)
  obtain ⟨cc, HCC2⟩ := name_it (codeQ c)
  rw [HCA2.out] at HCA
  rw [HCB2.out] at HCB
  rw [HCC2.out] at HCC
  have dd1 := hdd.1
  have dd2 := hdd.2
  clear hn hr ha hb hc ham hdd HD HCA2 HCB2 HCC2
  go_enter Try.func9, Try.ntmps9
  go_wp2_with fail
  refine (quotes_any L n A cap _ HN.out HR.out hx).mono ?_
  rintro e w1 ⟨v, xs, rfl, hown, hbq, -, c1⟩
  obtain ⟨B, cq, rfl, hc1, hc2, hs⟩ := hown.rds
  have HCV := Lib.hid (fun w x p kp f t hp hk h => bconvert (B := B) (cb := cq) hbq hc1 hc2 x p kp f t d w hp hk h)
  have HFIT := Lib.hid hbq.fit
  clear hown hbq hc1 hc2 hx
  replace hch := hch.then c1
  clear c1
  go_wp2_with fail
  refine (lsigned_any am _ HAM.out.1 HAM.out.2).mono ?_
  rintro e w2 ⟨z0, rfl, h0, c1⟩
  have H0 := Lib.hid h0
  obtain ⟨p0, HP0⟩ := name_it (sgnQ am)
  rw [HP0.out] at H0
  replace hch := hch.then c1
  replace hs := hs.keep0 c1
  have b14 := Blk3.alloc w2 (.bool z0.neg) (.string z0.num) (.string z0.den) 30
  have c2 : Chg [] w2 (w2.alloc (.cells #[.bool z0.neg, .string z0.num, .string z0.den] 30)) := (Chg.refl _ _).alloc _
  replace hch := hch.then c2
  replace hs := hs.keep0 c2
  clear c1 c2 h0 HP0
  have HMATH := Lib.hid (back_math HFIT.out p0 ca cb cc d)
  have HT1 := Lib.hid (fun w x kp hp hk h => HCV.out w x p0 kp ca cb hp hk h)
  obtain ⟨e1, HE1⟩ := name_it (cvE xs ca cb d)
  obtain ⟨v1, HV1⟩ := name_it (cvV p0 xs ca cb d)
  rw [HE1.out, HV1.out] at HT1
  have HT2 := Lib.hid (fun w x kp hp hk h => HCV.out w x v1 kp cb ca hp hk h)
  obtain ⟨e2, HE2⟩ := name_it (cvE xs cb ca d)
  rw [HE1.out, HV1.out, HE2.out] at HMATH
  obtain ⟨v2, HV2⟩ := name_it (cvV v1 xs cb ca d)
  rw [HE2.out, HV2.out] at HT2
  have HT3 := Lib.hid (fun w x kp hp hk h => HCV.out w x p0 kp ca cc hp hk h)
  obtain ⟨e3, HE3⟩ := name_it (cvE xs ca cc d)
  obtain ⟨v3, HV3⟩ := name_it (cvV p0 xs ca cc d)
  rw [HE3.out, HV3.out] at HT3
  have HT4 := Lib.hid (fun w x kp hp hk h => HCV.out w x v3 kp cc cb hp hk h)
  obtain ⟨e4, HE4⟩ := name_it (cvE xs cc cb d)
  obtain ⟨v4, HV4⟩ := name_it (cvV v3 xs cc cb d)
  rw [HE4.out, HV4.out] at HT4
  rw [HV2.out, HE3.out, HV3.out, HE4.out, HV4.out] at HMATH
  clear HE1 HV1 HE2 HV2 HE3 HV3 HE4 HV4 HCV HFIT
  go_wp2_with fail
  obtain ⟨w3, HW3⟩ := name_it (w2.alloc (.cells #[.bool z0.neg, .string z0.num, .string z0.den] 30))
  obtain ⟨g14, G14⟩ := name_it w2.heap.size
  rw [HW3.out] at b14 hs hch ⊢
  rw [G14.out] at b14 ⊢
  clear HW3 G14
  go_cut [16, 17] (fun pv ev wx => KB5 w3 wx pv ev e1 v1 (1 + 1 + 1))
  case first =>
    have hb := b14
    have hcz : Chg [] w3 w3.drew := (Chg.refl _ _).drew
    replace hb := hb.keep0 hcz
    have hsz := hs.keep0 hcz
    clear hch hs b14
    refine wp_region_held_drew (S := (fun w' => w'.cell? ⟨g14, 0, none⟩ = some (.bool z0.neg) ∧ w'.cell? ⟨g14, 1, none⟩ = some (.string z0.num) ∧ w'.cell? ⟨g14, 2, none⟩ = some (.string z0.den))) (by kernel_rfl) ?_ (fun hHeld => ?_)
    · exact ⟨hb.c0, hb.c1, hb.c2⟩
    obtain ⟨wz, HWz⟩ := name_it w3.drew
    rw [HWz.out] at hb hsz hcz hHeld ⊢
    refine wpAnyH_take (i := 0) (v := ?_) rfl (by kernel_rfl) (by kernel_rfl) (by kernel_rfl) (fun _ _ _ h => h) (Or.inl ⟨by rfl, ?_⟩) (by assumption) ?_
    rotate_left 1
    · intro w hSw
      try dsimp only at hSw
      go_simp
      try with_reducible rfl
    try simp only [Act.put, List.setIfInBounds_toArray, List.set_cons_zero, List.set_cons_succ]
    refine wpAnyH_take (i := 1) (v := ?_) rfl (by kernel_rfl) (by kernel_rfl) (by kernel_rfl) (fun _ _ _ h => h) (Or.inl ⟨by rfl, ?_⟩) (by assumption) ?_
    rotate_left 1
    · intro w hSw
      try dsimp only at hSw
      go_simp
      try with_reducible rfl
    try simp only [Act.put, List.setIfInBounds_toArray, List.set_cons_zero, List.set_cons_succ]
    refine wpAnyH_take (i := 2) (v := ?_) rfl (by kernel_rfl) (by kernel_rfl) (by kernel_rfl) (fun _ _ _ h => h) (Or.inl ⟨by rfl, ?_⟩) (by assumption) ?_
    rotate_left 1
    · intro w hSw
      try dsimp only at hSw
      go_simp
      try with_reducible rfl
    try simp only [Act.put, List.setIfInBounds_toArray, List.set_cons_zero, List.set_cons_succ]
    refine wpAnyH_take (i := 4) (v := ?_) rfl (by kernel_rfl) (by kernel_rfl) (by kernel_rfl) (fun _ _ _ h => h) (Or.inl ⟨by rfl, ?_⟩) (by assumption) ?_
    rotate_left 1
    · intro w hSw
      try dsimp only at hSw
      go_simp
      try with_reducible rfl
    try simp only [Act.put, List.setIfInBounds_toArray, List.set_cons_zero, List.set_cons_succ]
    refine wpAnyH_take (i := 6) (v := ?_) rfl (by kernel_rfl) (by kernel_rfl) (by kernel_rfl) (fun _ _ _ h => h) (Or.inl ⟨by rfl, ?_⟩) (by assumption) ?_
    rotate_left 1
    · intro w hSw
      try dsimp only at hSw
      go_simp
      try with_reducible rfl
    try simp only [Act.put, List.setIfInBounds_toArray, List.set_cons_zero, List.set_cons_succ]
    refine wpAnyH_ready (rs := [3, 11]) (by kernel_rfl) (by simp) ?_
    refine AllReadyH.cons (o := _) rfl (fun K' hK => ?_) ?_
    · go_simp
      refine (HCA.out _).mono ?_
      rintro e9 wc1 ⟨rfl, c6⟩
      replace hb := hb.keep0 c6
      replace hsz := hsz.keep0 c6
      replace hcz := hcz.then c6
      clear c6
      go_wp2_with fail
      refine hK.out _ _ ?_ (fun hHeld => ?_)
      · exact ⟨hb.c0, hb.c1, hb.c2⟩
      clear hK K'
      try simp only [Act.put, List.setIfInBounds_toArray, List.set_cons_zero, List.set_cons_succ]
      refine wpAnyH_ready (rs := [5, 11]) (by kernel_rfl) (by simp) ?_
      refine AllReadyH.cons (o := _) rfl (fun K' hK => ?_) ?_
      · go_simp
        refine (HCB.out _).mono ?_
        rintro e9 wc2 ⟨rfl, c6⟩
        replace hb := hb.keep0 c6
        replace hsz := hsz.keep0 c6
        replace hcz := hcz.then c6
        clear c6
        go_wp2_with fail
        refine hK.out _ _ ?_ (fun hHeld => ?_)
        · exact ⟨hb.c0, hb.c1, hb.c2⟩
        clear hK K'
        try simp only [Act.put, List.setIfInBounds_toArray, List.set_cons_zero, List.set_cons_succ]
        refine wpAnyH_ready (rs := [7, 11]) (by kernel_rfl) (by simp) ?_
        refine AllReadyH.cons (o := _) rfl (fun K' hK => ?_) ?_
        · go_simp
          refine (HT1.out _ z0 1 H0.out.num (by omega) hsz).mono ?_
          rintro e9 wk3 ⟨zz, rfl, hzz, c6⟩
          have HZZ := Lib.hid hzz
          clear hzz
          replace hb := hb.keep0 c6
          replace hsz := hsz.keep0 c6
          replace hcz := hcz.then c6
          clear c6
          go_wp2_with fail
          refine hK.out _ _ ?_ (fun hHeld => ?_)
          · exact ⟨hb.c0, hb.c1, hb.c2⟩
          clear hK K'
          try simp only [Act.put, List.setIfInBounds_toArray, List.set_cons_zero, List.set_cons_succ]
          refine wpAnyH_take (i := 8) (v := ?_) rfl (by kernel_rfl) (by kernel_rfl) (by kernel_rfl) (fun _ _ _ h => h) (Or.inl ⟨by rfl, ?_⟩) (by assumption) ?_
          rotate_left 1
          · intro w hSw
            try dsimp only at hSw
            go_simp
            try with_reducible rfl
          try simp only [Act.put, List.setIfInBounds_toArray, List.set_cons_zero, List.set_cons_succ]
          refine wpAnyH_take (i := 9) (v := ?_) rfl (by kernel_rfl) (by kernel_rfl) (by kernel_rfl) (fun _ _ _ h => h) (Or.inl ⟨by rfl, ?_⟩) (by assumption) ?_
          rotate_left 1
          · intro w hSw
            try dsimp only at hSw
            go_simp
            try with_reducible rfl
          try simp only [Act.put, List.setIfInBounds_toArray, List.set_cons_zero, List.set_cons_succ]
          refine wpAnyH_take (i := 10) (v := ?_) rfl (by kernel_rfl) (by kernel_rfl) (by kernel_rfl) (fun _ _ _ h => h) (Or.inl ⟨by rfl, ?_⟩) (by assumption) ?_
          rotate_left 1
          · intro w hSw
            try dsimp only at hSw
            go_simp
            try with_reducible rfl
          try simp only [Act.put, List.setIfInBounds_toArray, List.set_cons_zero, List.set_cons_succ]
          refine wpAnyH_ready (rs := [11]) (by kernel_rfl) (by simp) ?_
          refine AllReadyH.cons (o := _) rfl (fun K' hK => ?_) AllReadyH.nil
          go_simp
          refine hK.out _ _ ?_ (fun hHeld => ?_)
          · exact ⟨(hb.keep0 ((Chg.refl [] _).alloc _)).c0, (hb.keep0 ((Chg.refl [] _).alloc _)).c1, (hb.keep0 ((Chg.refl [] _).alloc _)).c2⟩
          clear hK K'
          try simp only [Act.put, List.setIfInBounds_toArray, List.set_cons_zero, List.set_cons_succ]
          have bP := Blk3.alloc wk3 (.bool false) (.string ⟨#[]⟩) (.string ⟨#[]⟩) 30
          have c9 : Chg [] wk3 (wk3.alloc (.cells #[.bool false, .string ⟨#[]⟩, .string ⟨#[]⟩] 30)) := (Chg.refl _ _).alloc _
          have la : _ ≤ wk3.heap.size := hcz.size
          have lg : _ < wk3.heap.size := hb.lt
          replace hb := hb.keep0 c9
          replace hsz := hsz.keep0 c9
          replace hcz := hcz.then c9
          clear c9
          obtain ⟨wq4, HWwq4⟩ := name_it (wk3.alloc (.cells #[.bool false, .string ⟨#[]⟩, .string ⟨#[]⟩] 30))
          obtain ⟨gP, HGgP⟩ := name_it wk3.heap.size
          rw [HWwq4.out] at hb hsz bP hcz hHeld ⊢
          rw [HGgP.out] at bP la lg ⊢
          refine wpAnyH_ready (rs := [12]) (by kernel_rfl) (by simp) ?_
          refine AllReadyH.cons (o := _) rfl (fun K' hK => ?_) AllReadyH.nil
          have bPc0 := bP.c0
          have bPc1 := bP.c1
          have bPc2 := bP.c2
          have bPf0 := bP.f0
          have bPf1 := bP.f1
          have bPf2 := bP.f2
          have bPl := bP.lt
          go_simp
          refine hK.out _ _ ?_ (fun hHeld => ?_)
          · exact ⟨(hb.st2 (by omega) _ _ _).c0, (hb.st2 (by omega) _ _ _).c1, (hb.st2 (by omega) _ _ _).c2⟩
          clear hK K'
          try simp only [Act.put, List.setIfInBounds_toArray, List.set_cons_zero, List.set_cons_succ]
          clear bPc0 bPc1 bPc2 bPf0 bPf1 bPf2
          refine wpAnyH_take (i := 13) (v := ?_) rfl (by kernel_rfl) (by kernel_rfl) (by kernel_rfl) (fun _ _ _ h => h) (Or.inl ⟨by rfl, ?_⟩) (by assumption) ?_
          rotate_left 1
          · intro w hSw
            try dsimp only at hSw
            go_simp
            try with_reducible rfl
          try simp only [List.getElem_toArray, List.getElem_cons_succ, List.getElem_cons_zero]
          try simp only [Act.put, List.setIfInBounds_toArray, List.set_cons_zero, List.set_cons_succ]
          refine wpAnyH_done (by kernel_rfl) ?_ _
          go_wp2_with fail
          go_meet
          exact ⟨⟨_, zz, rfl, rfl, HZZ.out, bP.store _ _ _⟩, hcz.store3 (.inr la) _ _ _⟩
        refine AllReadyH.cons (o := _) rfl (fun K' hK => ?_) AllReadyH.nil
        go_simp
        refine hK.out _ _ ?_ (fun hHeld => ?_)
        · exact ⟨(hb.keep0 ((Chg.refl [] _).alloc _)).c0, (hb.keep0 ((Chg.refl [] _).alloc _)).c1, (hb.keep0 ((Chg.refl [] _).alloc _)).c2⟩
        clear hK K'
        try simp only [Act.put, List.setIfInBounds_toArray, List.set_cons_zero, List.set_cons_succ]
        have bP := Blk3.alloc wc2 (.bool false) (.string ⟨#[]⟩) (.string ⟨#[]⟩) 30
        have c9 : Chg [] wc2 (wc2.alloc (.cells #[.bool false, .string ⟨#[]⟩, .string ⟨#[]⟩] 30)) := (Chg.refl _ _).alloc _
        have la : _ ≤ wc2.heap.size := hcz.size
        have lg : _ < wc2.heap.size := hb.lt
        replace hb := hb.keep0 c9
        replace hsz := hsz.keep0 c9
        replace hcz := hcz.then c9
        clear c9
        obtain ⟨wq5, HWwq5⟩ := name_it (wc2.alloc (.cells #[.bool false, .string ⟨#[]⟩, .string ⟨#[]⟩] 30))
        obtain ⟨gP, HGgP⟩ := name_it wc2.heap.size
        rw [HWwq5.out] at hb hsz bP hcz hHeld ⊢
        rw [HGgP.out] at bP la lg ⊢
        refine wpAnyH_ready (rs := [7]) (by kernel_rfl) (by simp) ?_
        refine AllReadyH.cons (o := _) rfl (fun K' hK => ?_) AllReadyH.nil
        go_simp
        refine (HT1.out _ z0 1 H0.out.num (by omega) hsz).mono ?_
        rintro e9 wk6 ⟨zz, rfl, hzz, c6⟩
        have HZZ := Lib.hid hzz
        clear hzz
        replace hb := hb.keep0 c6
        replace hsz := hsz.keep0 c6
        replace bP := bP.keep0 c6
        replace hcz := hcz.then c6
        clear c6
        go_wp2_with fail
        refine hK.out _ _ ?_ (fun hHeld => ?_)
        · exact ⟨hb.c0, hb.c1, hb.c2⟩
        clear hK K'
        try simp only [Act.put, List.setIfInBounds_toArray, List.set_cons_zero, List.set_cons_succ]
        refine wpAnyH_take (i := 8) (v := ?_) rfl (by kernel_rfl) (by kernel_rfl) (by kernel_rfl) (fun _ _ _ h => h) (Or.inl ⟨by rfl, ?_⟩) (by assumption) ?_
        rotate_left 1
        · intro w hSw
          try dsimp only at hSw
          go_simp
          try with_reducible rfl
        try simp only [Act.put, List.setIfInBounds_toArray, List.set_cons_zero, List.set_cons_succ]
        refine wpAnyH_take (i := 9) (v := ?_) rfl (by kernel_rfl) (by kernel_rfl) (by kernel_rfl) (fun _ _ _ h => h) (Or.inl ⟨by rfl, ?_⟩) (by assumption) ?_
        rotate_left 1
        · intro w hSw
          try dsimp only at hSw
          go_simp
          try with_reducible rfl
        try simp only [Act.put, List.setIfInBounds_toArray, List.set_cons_zero, List.set_cons_succ]
        refine wpAnyH_take (i := 10) (v := ?_) rfl (by kernel_rfl) (by kernel_rfl) (by kernel_rfl) (fun _ _ _ h => h) (Or.inl ⟨by rfl, ?_⟩) (by assumption) ?_
        rotate_left 1
        · intro w hSw
          try dsimp only at hSw
          go_simp
          try with_reducible rfl
        try simp only [Act.put, List.setIfInBounds_toArray, List.set_cons_zero, List.set_cons_succ]
        refine wpAnyH_ready (rs := [12]) (by kernel_rfl) (by simp) ?_
        refine AllReadyH.cons (o := _) rfl (fun K' hK => ?_) AllReadyH.nil
        have bPc0 := bP.c0
        have bPc1 := bP.c1
        have bPc2 := bP.c2
        have bPf0 := bP.f0
        have bPf1 := bP.f1
        have bPf2 := bP.f2
        have bPl := bP.lt
        go_simp
        refine hK.out _ _ ?_ (fun hHeld => ?_)
        · exact ⟨(hb.st2 (by omega) _ _ _).c0, (hb.st2 (by omega) _ _ _).c1, (hb.st2 (by omega) _ _ _).c2⟩
        clear hK K'
        try simp only [Act.put, List.setIfInBounds_toArray, List.set_cons_zero, List.set_cons_succ]
        clear bPc0 bPc1 bPc2 bPf0 bPf1 bPf2
        refine wpAnyH_take (i := 13) (v := ?_) rfl (by kernel_rfl) (by kernel_rfl) (by kernel_rfl) (fun _ _ _ h => h) (Or.inl ⟨by rfl, ?_⟩) (by assumption) ?_
        rotate_left 1
        · intro w hSw
          try dsimp only at hSw
          go_simp
          try with_reducible rfl
        try simp only [List.getElem_toArray, List.getElem_cons_succ, List.getElem_cons_zero]
        try simp only [Act.put, List.setIfInBounds_toArray, List.set_cons_zero, List.set_cons_succ]
        refine wpAnyH_done (by kernel_rfl) ?_ _
        go_wp2_with fail
        go_meet
        exact ⟨⟨_, zz, rfl, rfl, HZZ.out, bP.store _ _ _⟩, hcz.store3 (.inr la) _ _ _⟩
      refine AllReadyH.cons (o := _) rfl (fun K' hK => ?_) AllReadyH.nil
      go_simp
      refine hK.out _ _ ?_ (fun hHeld => ?_)
      · exact ⟨(hb.keep0 ((Chg.refl [] _).alloc _)).c0, (hb.keep0 ((Chg.refl [] _).alloc _)).c1, (hb.keep0 ((Chg.refl [] _).alloc _)).c2⟩
      clear hK K'
      try simp only [Act.put, List.setIfInBounds_toArray, List.set_cons_zero, List.set_cons_succ]
      have bP := Blk3.alloc wc1 (.bool false) (.string ⟨#[]⟩) (.string ⟨#[]⟩) 30
      have c9 : Chg [] wc1 (wc1.alloc (.cells #[.bool false, .string ⟨#[]⟩, .string ⟨#[]⟩] 30)) := (Chg.refl _ _).alloc _
      have la : _ ≤ wc1.heap.size := hcz.size
      have lg : _ < wc1.heap.size := hb.lt
      replace hb := hb.keep0 c9
      replace hsz := hsz.keep0 c9
      replace hcz := hcz.then c9
      clear c9
      obtain ⟨wq7, HWwq7⟩ := name_it (wc1.alloc (.cells #[.bool false, .string ⟨#[]⟩, .string ⟨#[]⟩] 30))
      obtain ⟨gP, HGgP⟩ := name_it wc1.heap.size
      rw [HWwq7.out] at hb hsz bP hcz hHeld ⊢
      rw [HGgP.out] at bP la lg ⊢
      refine wpAnyH_ready (rs := [5]) (by kernel_rfl) (by simp) ?_
      refine AllReadyH.cons (o := _) rfl (fun K' hK => ?_) AllReadyH.nil
      go_simp
      refine (HCB.out _).mono ?_
      rintro e9 wc8 ⟨rfl, c6⟩
      replace hb := hb.keep0 c6
      replace hsz := hsz.keep0 c6
      replace bP := bP.keep0 c6
      replace hcz := hcz.then c6
      clear c6
      go_wp2_with fail
      refine hK.out _ _ ?_ (fun hHeld => ?_)
      · exact ⟨hb.c0, hb.c1, hb.c2⟩
      clear hK K'
      try simp only [Act.put, List.setIfInBounds_toArray, List.set_cons_zero, List.set_cons_succ]
      refine wpAnyH_ready (rs := [7]) (by kernel_rfl) (by simp) ?_
      refine AllReadyH.cons (o := _) rfl (fun K' hK => ?_) AllReadyH.nil
      go_simp
      refine (HT1.out _ z0 1 H0.out.num (by omega) hsz).mono ?_
      rintro e9 wk9 ⟨zz, rfl, hzz, c6⟩
      have HZZ := Lib.hid hzz
      clear hzz
      replace hb := hb.keep0 c6
      replace hsz := hsz.keep0 c6
      replace bP := bP.keep0 c6
      replace hcz := hcz.then c6
      clear c6
      go_wp2_with fail
      refine hK.out _ _ ?_ (fun hHeld => ?_)
      · exact ⟨hb.c0, hb.c1, hb.c2⟩
      clear hK K'
      try simp only [Act.put, List.setIfInBounds_toArray, List.set_cons_zero, List.set_cons_succ]
      refine wpAnyH_take (i := 8) (v := ?_) rfl (by kernel_rfl) (by kernel_rfl) (by kernel_rfl) (fun _ _ _ h => h) (Or.inl ⟨by rfl, ?_⟩) (by assumption) ?_
      rotate_left 1
      · intro w hSw
        try dsimp only at hSw
        go_simp
        try with_reducible rfl
      try simp only [Act.put, List.setIfInBounds_toArray, List.set_cons_zero, List.set_cons_succ]
      refine wpAnyH_take (i := 9) (v := ?_) rfl (by kernel_rfl) (by kernel_rfl) (by kernel_rfl) (fun _ _ _ h => h) (Or.inl ⟨by rfl, ?_⟩) (by assumption) ?_
      rotate_left 1
      · intro w hSw
        try dsimp only at hSw
        go_simp
        try with_reducible rfl
      try simp only [Act.put, List.setIfInBounds_toArray, List.set_cons_zero, List.set_cons_succ]
      refine wpAnyH_take (i := 10) (v := ?_) rfl (by kernel_rfl) (by kernel_rfl) (by kernel_rfl) (fun _ _ _ h => h) (Or.inl ⟨by rfl, ?_⟩) (by assumption) ?_
      rotate_left 1
      · intro w hSw
        try dsimp only at hSw
        go_simp
        try with_reducible rfl
      try simp only [Act.put, List.setIfInBounds_toArray, List.set_cons_zero, List.set_cons_succ]
      refine wpAnyH_ready (rs := [12]) (by kernel_rfl) (by simp) ?_
      refine AllReadyH.cons (o := _) rfl (fun K' hK => ?_) AllReadyH.nil
      have bPc0 := bP.c0
      have bPc1 := bP.c1
      have bPc2 := bP.c2
      have bPf0 := bP.f0
      have bPf1 := bP.f1
      have bPf2 := bP.f2
      have bPl := bP.lt
      go_simp
      refine hK.out _ _ ?_ (fun hHeld => ?_)
      · exact ⟨(hb.st2 (by omega) _ _ _).c0, (hb.st2 (by omega) _ _ _).c1, (hb.st2 (by omega) _ _ _).c2⟩
      clear hK K'
      try simp only [Act.put, List.setIfInBounds_toArray, List.set_cons_zero, List.set_cons_succ]
      clear bPc0 bPc1 bPc2 bPf0 bPf1 bPf2
      refine wpAnyH_take (i := 13) (v := ?_) rfl (by kernel_rfl) (by kernel_rfl) (by kernel_rfl) (fun _ _ _ h => h) (Or.inl ⟨by rfl, ?_⟩) (by assumption) ?_
      rotate_left 1
      · intro w hSw
        try dsimp only at hSw
        go_simp
        try with_reducible rfl
      try simp only [List.getElem_toArray, List.getElem_cons_succ, List.getElem_cons_zero]
      try simp only [Act.put, List.setIfInBounds_toArray, List.set_cons_zero, List.set_cons_succ]
      refine wpAnyH_done (by kernel_rfl) ?_ _
      go_wp2_with fail
      go_meet
      exact ⟨⟨_, zz, rfl, rfl, HZZ.out, bP.store _ _ _⟩, hcz.store3 (.inr la) _ _ _⟩
    refine AllReadyH.cons (o := _) rfl (fun K' hK => ?_) AllReadyH.nil
    go_simp
    refine hK.out _ _ ?_ (fun hHeld => ?_)
    · exact ⟨(hb.keep0 ((Chg.refl [] _).alloc _)).c0, (hb.keep0 ((Chg.refl [] _).alloc _)).c1, (hb.keep0 ((Chg.refl [] _).alloc _)).c2⟩
    clear hK K'
    try simp only [Act.put, List.setIfInBounds_toArray, List.set_cons_zero, List.set_cons_succ]
    have bP := Blk3.alloc wz (.bool false) (.string ⟨#[]⟩) (.string ⟨#[]⟩) 30
    have c9 : Chg [] wz (wz.alloc (.cells #[.bool false, .string ⟨#[]⟩, .string ⟨#[]⟩] 30)) := (Chg.refl _ _).alloc _
    have la : _ ≤ wz.heap.size := hcz.size
    have lg : _ < wz.heap.size := hb.lt
    replace hb := hb.keep0 c9
    replace hsz := hsz.keep0 c9
    replace hcz := hcz.then c9
    clear c9
    obtain ⟨wq10, HWwq10⟩ := name_it (wz.alloc (.cells #[.bool false, .string ⟨#[]⟩, .string ⟨#[]⟩] 30))
    obtain ⟨gP, HGgP⟩ := name_it wz.heap.size
    rw [HWwq10.out] at hb hsz bP hcz hHeld ⊢
    rw [HGgP.out] at bP la lg ⊢
    refine wpAnyH_ready (rs := [3]) (by kernel_rfl) (by simp) ?_
    refine AllReadyH.cons (o := _) rfl (fun K' hK => ?_) AllReadyH.nil
    go_simp
    refine (HCA.out _).mono ?_
    rintro e9 wc11 ⟨rfl, c6⟩
    replace hb := hb.keep0 c6
    replace hsz := hsz.keep0 c6
    replace bP := bP.keep0 c6
    replace hcz := hcz.then c6
    clear c6
    go_wp2_with fail
    refine hK.out _ _ ?_ (fun hHeld => ?_)
    · exact ⟨hb.c0, hb.c1, hb.c2⟩
    clear hK K'
    try simp only [Act.put, List.setIfInBounds_toArray, List.set_cons_zero, List.set_cons_succ]
    refine wpAnyH_ready (rs := [5]) (by kernel_rfl) (by simp) ?_
    refine AllReadyH.cons (o := _) rfl (fun K' hK => ?_) AllReadyH.nil
    go_simp
    refine (HCB.out _).mono ?_
    rintro e9 wc12 ⟨rfl, c6⟩
    replace hb := hb.keep0 c6
    replace hsz := hsz.keep0 c6
    replace bP := bP.keep0 c6
    replace hcz := hcz.then c6
    clear c6
    go_wp2_with fail
    refine hK.out _ _ ?_ (fun hHeld => ?_)
    · exact ⟨hb.c0, hb.c1, hb.c2⟩
    clear hK K'
    try simp only [Act.put, List.setIfInBounds_toArray, List.set_cons_zero, List.set_cons_succ]
    refine wpAnyH_ready (rs := [7]) (by kernel_rfl) (by simp) ?_
    refine AllReadyH.cons (o := _) rfl (fun K' hK => ?_) AllReadyH.nil
    go_simp
    refine (HT1.out _ z0 1 H0.out.num (by omega) hsz).mono ?_
    rintro e9 wk13 ⟨zz, rfl, hzz, c6⟩
    have HZZ := Lib.hid hzz
    clear hzz
    replace hb := hb.keep0 c6
    replace hsz := hsz.keep0 c6
    replace bP := bP.keep0 c6
    replace hcz := hcz.then c6
    clear c6
    go_wp2_with fail
    refine hK.out _ _ ?_ (fun hHeld => ?_)
    · exact ⟨hb.c0, hb.c1, hb.c2⟩
    clear hK K'
    try simp only [Act.put, List.setIfInBounds_toArray, List.set_cons_zero, List.set_cons_succ]
    refine wpAnyH_take (i := 8) (v := ?_) rfl (by kernel_rfl) (by kernel_rfl) (by kernel_rfl) (fun _ _ _ h => h) (Or.inl ⟨by rfl, ?_⟩) (by assumption) ?_
    rotate_left 1
    · intro w hSw
      try dsimp only at hSw
      go_simp
      try with_reducible rfl
    try simp only [Act.put, List.setIfInBounds_toArray, List.set_cons_zero, List.set_cons_succ]
    refine wpAnyH_take (i := 9) (v := ?_) rfl (by kernel_rfl) (by kernel_rfl) (by kernel_rfl) (fun _ _ _ h => h) (Or.inl ⟨by rfl, ?_⟩) (by assumption) ?_
    rotate_left 1
    · intro w hSw
      try dsimp only at hSw
      go_simp
      try with_reducible rfl
    try simp only [Act.put, List.setIfInBounds_toArray, List.set_cons_zero, List.set_cons_succ]
    refine wpAnyH_take (i := 10) (v := ?_) rfl (by kernel_rfl) (by kernel_rfl) (by kernel_rfl) (fun _ _ _ h => h) (Or.inl ⟨by rfl, ?_⟩) (by assumption) ?_
    rotate_left 1
    · intro w hSw
      try dsimp only at hSw
      go_simp
      try with_reducible rfl
    try simp only [Act.put, List.setIfInBounds_toArray, List.set_cons_zero, List.set_cons_succ]
    refine wpAnyH_ready (rs := [12]) (by kernel_rfl) (by simp) ?_
    refine AllReadyH.cons (o := _) rfl (fun K' hK => ?_) AllReadyH.nil
    have bPc0 := bP.c0
    have bPc1 := bP.c1
    have bPc2 := bP.c2
    have bPf0 := bP.f0
    have bPf1 := bP.f1
    have bPf2 := bP.f2
    have bPl := bP.lt
    go_simp
    refine hK.out _ _ ?_ (fun hHeld => ?_)
    · exact ⟨(hb.st2 (by omega) _ _ _).c0, (hb.st2 (by omega) _ _ _).c1, (hb.st2 (by omega) _ _ _).c2⟩
    clear hK K'
    try simp only [Act.put, List.setIfInBounds_toArray, List.set_cons_zero, List.set_cons_succ]
    clear bPc0 bPc1 bPc2 bPf0 bPf1 bPf2
    refine wpAnyH_take (i := 13) (v := ?_) rfl (by kernel_rfl) (by kernel_rfl) (by kernel_rfl) (fun _ _ _ h => h) (Or.inl ⟨by rfl, ?_⟩) (by assumption) ?_
    rotate_left 1
    · intro w hSw
      try dsimp only at hSw
      go_simp
      try with_reducible rfl
    try simp only [List.getElem_toArray, List.getElem_cons_succ, List.getElem_cons_zero]
    try simp only [Act.put, List.setIfInBounds_toArray, List.set_cons_zero, List.set_cons_succ]
    refine wpAnyH_done (by kernel_rfl) ?_ _
    go_wp2_with fail
    go_meet
    exact ⟨⟨_, zz, rfl, rfl, HZZ.out, bP.store _ _ _⟩, hcz.store3 (.inr la) _ _ _⟩
  case rest =>
    obtain ⟨⟨g16, z1, rfl, rfl, hz1, b16⟩, c9⟩ := hcut
    have Hz1 := Lib.hid hz1
    replace hch := hch.then c9
    replace hs := hs.keep0 c9
    replace b14 := b14.keep0 c9
    clear c9 hz1 HT1
    rename World => wy1
    go_wp2_with fail
    go_cut [18, 19] (fun pv ev wx => KB5 wy1 wx pv ev e2 v2 (1 + 1 + 1 + 1 + 1))
    case first =>
      have hb := b16
      have hcz : Chg [] wy1 wy1.drew := (Chg.refl _ _).drew
      replace hb := hb.keep0 hcz
      have hsz := hs.keep0 hcz
      clear hch hs b14 b16
      refine wp_region_held_drew (S := (fun w' => w'.cell? ⟨g16, 0, none⟩ = some (.bool z1.neg) ∧ w'.cell? ⟨g16, 1, none⟩ = some (.string z1.num) ∧ w'.cell? ⟨g16, 2, none⟩ = some (.string z1.den))) (by kernel_rfl) ?_ (fun hHeld => ?_)
      · exact ⟨hb.c0, hb.c1, hb.c2⟩
      obtain ⟨wz, HWz⟩ := name_it wy1.drew
      rw [HWz.out] at hb hsz hcz hHeld ⊢
      refine wpAnyH_take (i := 0) (v := ?_) rfl (by kernel_rfl) (by kernel_rfl) (by kernel_rfl) (fun _ _ _ h => h) (Or.inl ⟨by rfl, ?_⟩) (by assumption) ?_
      rotate_left 1
      · intro w hSw
        try dsimp only at hSw
        go_simp
        try with_reducible rfl
      try simp only [Act.put, List.setIfInBounds_toArray, List.set_cons_zero, List.set_cons_succ]
      refine wpAnyH_take (i := 1) (v := ?_) rfl (by kernel_rfl) (by kernel_rfl) (by kernel_rfl) (fun _ _ _ h => h) (Or.inl ⟨by rfl, ?_⟩) (by assumption) ?_
      rotate_left 1
      · intro w hSw
        try dsimp only at hSw
        go_simp
        try with_reducible rfl
      try simp only [Act.put, List.setIfInBounds_toArray, List.set_cons_zero, List.set_cons_succ]
      refine wpAnyH_take (i := 2) (v := ?_) rfl (by kernel_rfl) (by kernel_rfl) (by kernel_rfl) (fun _ _ _ h => h) (Or.inl ⟨by rfl, ?_⟩) (by assumption) ?_
      rotate_left 1
      · intro w hSw
        try dsimp only at hSw
        go_simp
        try with_reducible rfl
      try simp only [Act.put, List.setIfInBounds_toArray, List.set_cons_zero, List.set_cons_succ]
      refine wpAnyH_take (i := 4) (v := ?_) rfl (by kernel_rfl) (by kernel_rfl) (by kernel_rfl) (fun _ _ _ h => h) (Or.inl ⟨by rfl, ?_⟩) (by assumption) ?_
      rotate_left 1
      · intro w hSw
        try dsimp only at hSw
        go_simp
        try with_reducible rfl
      try simp only [Act.put, List.setIfInBounds_toArray, List.set_cons_zero, List.set_cons_succ]
      refine wpAnyH_take (i := 6) (v := ?_) rfl (by kernel_rfl) (by kernel_rfl) (by kernel_rfl) (fun _ _ _ h => h) (Or.inl ⟨by rfl, ?_⟩) (by assumption) ?_
      rotate_left 1
      · intro w hSw
        try dsimp only at hSw
        go_simp
        try with_reducible rfl
      try simp only [Act.put, List.setIfInBounds_toArray, List.set_cons_zero, List.set_cons_succ]
      refine wpAnyH_ready (rs := [3, 11]) (by kernel_rfl) (by simp) ?_
      refine AllReadyH.cons (o := _) rfl (fun K' hK => ?_) ?_
      · go_simp
        refine (HCB.out _).mono ?_
        rintro e9 wc1 ⟨rfl, c6⟩
        replace hb := hb.keep0 c6
        replace hsz := hsz.keep0 c6
        replace hcz := hcz.then c6
        clear c6
        go_wp2_with fail
        refine hK.out _ _ ?_ (fun hHeld => ?_)
        · exact ⟨hb.c0, hb.c1, hb.c2⟩
        clear hK K'
        try simp only [Act.put, List.setIfInBounds_toArray, List.set_cons_zero, List.set_cons_succ]
        refine wpAnyH_ready (rs := [5, 11]) (by kernel_rfl) (by simp) ?_
        refine AllReadyH.cons (o := _) rfl (fun K' hK => ?_) ?_
        · go_simp
          refine (HCA.out _).mono ?_
          rintro e9 wc2 ⟨rfl, c6⟩
          replace hb := hb.keep0 c6
          replace hsz := hsz.keep0 c6
          replace hcz := hcz.then c6
          clear c6
          go_wp2_with fail
          refine hK.out _ _ ?_ (fun hHeld => ?_)
          · exact ⟨hb.c0, hb.c1, hb.c2⟩
          clear hK K'
          try simp only [Act.put, List.setIfInBounds_toArray, List.set_cons_zero, List.set_cons_succ]
          refine wpAnyH_ready (rs := [7, 11]) (by kernel_rfl) (by simp) ?_
          refine AllReadyH.cons (o := _) rfl (fun K' hK => ?_) ?_
          · go_simp
            refine (HT2.out _ z1 (1 + 1 + 1) Hz1.out.num (by omega) hsz).mono ?_
            rintro e9 wk3 ⟨zz, rfl, hzz, c6⟩
            have HZZ := Lib.hid hzz
            clear hzz
            replace hb := hb.keep0 c6
            replace hsz := hsz.keep0 c6
            replace hcz := hcz.then c6
            clear c6
            go_wp2_with fail
            refine hK.out _ _ ?_ (fun hHeld => ?_)
            · exact ⟨hb.c0, hb.c1, hb.c2⟩
            clear hK K'
            try simp only [Act.put, List.setIfInBounds_toArray, List.set_cons_zero, List.set_cons_succ]
            refine wpAnyH_take (i := 8) (v := ?_) rfl (by kernel_rfl) (by kernel_rfl) (by kernel_rfl) (fun _ _ _ h => h) (Or.inl ⟨by rfl, ?_⟩) (by assumption) ?_
            rotate_left 1
            · intro w hSw
              try dsimp only at hSw
              go_simp
              try with_reducible rfl
            try simp only [Act.put, List.setIfInBounds_toArray, List.set_cons_zero, List.set_cons_succ]
            refine wpAnyH_take (i := 9) (v := ?_) rfl (by kernel_rfl) (by kernel_rfl) (by kernel_rfl) (fun _ _ _ h => h) (Or.inl ⟨by rfl, ?_⟩) (by assumption) ?_
            rotate_left 1
            · intro w hSw
              try dsimp only at hSw
              go_simp
              try with_reducible rfl
            try simp only [Act.put, List.setIfInBounds_toArray, List.set_cons_zero, List.set_cons_succ]
            refine wpAnyH_take (i := 10) (v := ?_) rfl (by kernel_rfl) (by kernel_rfl) (by kernel_rfl) (fun _ _ _ h => h) (Or.inl ⟨by rfl, ?_⟩) (by assumption) ?_
            rotate_left 1
            · intro w hSw
              try dsimp only at hSw
              go_simp
              try with_reducible rfl
            try simp only [Act.put, List.setIfInBounds_toArray, List.set_cons_zero, List.set_cons_succ]
            refine wpAnyH_ready (rs := [11]) (by kernel_rfl) (by simp) ?_
            refine AllReadyH.cons (o := _) rfl (fun K' hK => ?_) AllReadyH.nil
            go_simp
            refine hK.out _ _ ?_ (fun hHeld => ?_)
            · exact ⟨(hb.keep0 ((Chg.refl [] _).alloc _)).c0, (hb.keep0 ((Chg.refl [] _).alloc _)).c1, (hb.keep0 ((Chg.refl [] _).alloc _)).c2⟩
            clear hK K'
            try simp only [Act.put, List.setIfInBounds_toArray, List.set_cons_zero, List.set_cons_succ]
            have bP := Blk3.alloc wk3 (.bool false) (.string ⟨#[]⟩) (.string ⟨#[]⟩) 30
            have c9 : Chg [] wk3 (wk3.alloc (.cells #[.bool false, .string ⟨#[]⟩, .string ⟨#[]⟩] 30)) := (Chg.refl _ _).alloc _
            have la : _ ≤ wk3.heap.size := hcz.size
            have lg : _ < wk3.heap.size := hb.lt
            replace hb := hb.keep0 c9
            replace hsz := hsz.keep0 c9
            replace hcz := hcz.then c9
            clear c9
            obtain ⟨wq4, HWwq4⟩ := name_it (wk3.alloc (.cells #[.bool false, .string ⟨#[]⟩, .string ⟨#[]⟩] 30))
            obtain ⟨gP, HGgP⟩ := name_it wk3.heap.size
            rw [HWwq4.out] at hb hsz bP hcz hHeld ⊢
            rw [HGgP.out] at bP la lg ⊢
            refine wpAnyH_ready (rs := [12]) (by kernel_rfl) (by simp) ?_
            refine AllReadyH.cons (o := _) rfl (fun K' hK => ?_) AllReadyH.nil
            have bPc0 := bP.c0
            have bPc1 := bP.c1
            have bPc2 := bP.c2
            have bPf0 := bP.f0
            have bPf1 := bP.f1
            have bPf2 := bP.f2
            have bPl := bP.lt
            go_simp
            refine hK.out _ _ ?_ (fun hHeld => ?_)
            · exact ⟨(hb.st2 (by omega) _ _ _).c0, (hb.st2 (by omega) _ _ _).c1, (hb.st2 (by omega) _ _ _).c2⟩
            clear hK K'
            try simp only [Act.put, List.setIfInBounds_toArray, List.set_cons_zero, List.set_cons_succ]
            clear bPc0 bPc1 bPc2 bPf0 bPf1 bPf2
            refine wpAnyH_take (i := 13) (v := ?_) rfl (by kernel_rfl) (by kernel_rfl) (by kernel_rfl) (fun _ _ _ h => h) (Or.inl ⟨by rfl, ?_⟩) (by assumption) ?_
            rotate_left 1
            · intro w hSw
              try dsimp only at hSw
              go_simp
              try with_reducible rfl
            try simp only [List.getElem_toArray, List.getElem_cons_succ, List.getElem_cons_zero]
            try simp only [Act.put, List.setIfInBounds_toArray, List.set_cons_zero, List.set_cons_succ]
            refine wpAnyH_done (by kernel_rfl) ?_ _
            go_wp2_with fail
            go_meet
            exact ⟨⟨_, zz, rfl, rfl, HZZ.out, bP.store _ _ _⟩, hcz.store3 (.inr la) _ _ _⟩
          refine AllReadyH.cons (o := _) rfl (fun K' hK => ?_) AllReadyH.nil
          go_simp
          refine hK.out _ _ ?_ (fun hHeld => ?_)
          · exact ⟨(hb.keep0 ((Chg.refl [] _).alloc _)).c0, (hb.keep0 ((Chg.refl [] _).alloc _)).c1, (hb.keep0 ((Chg.refl [] _).alloc _)).c2⟩
          clear hK K'
          try simp only [Act.put, List.setIfInBounds_toArray, List.set_cons_zero, List.set_cons_succ]
          have bP := Blk3.alloc wc2 (.bool false) (.string ⟨#[]⟩) (.string ⟨#[]⟩) 30
          have c9 : Chg [] wc2 (wc2.alloc (.cells #[.bool false, .string ⟨#[]⟩, .string ⟨#[]⟩] 30)) := (Chg.refl _ _).alloc _
          have la : _ ≤ wc2.heap.size := hcz.size
          have lg : _ < wc2.heap.size := hb.lt
          replace hb := hb.keep0 c9
          replace hsz := hsz.keep0 c9
          replace hcz := hcz.then c9
          clear c9
          obtain ⟨wq5, HWwq5⟩ := name_it (wc2.alloc (.cells #[.bool false, .string ⟨#[]⟩, .string ⟨#[]⟩] 30))
          obtain ⟨gP, HGgP⟩ := name_it wc2.heap.size
          rw [HWwq5.out] at hb hsz bP hcz hHeld ⊢
          rw [HGgP.out] at bP la lg ⊢
          refine wpAnyH_ready (rs := [7]) (by kernel_rfl) (by simp) ?_
          refine AllReadyH.cons (o := _) rfl (fun K' hK => ?_) AllReadyH.nil
          go_simp
          refine (HT2.out _ z1 (1 + 1 + 1) Hz1.out.num (by omega) hsz).mono ?_
          rintro e9 wk6 ⟨zz, rfl, hzz, c6⟩
          have HZZ := Lib.hid hzz
          clear hzz
          replace hb := hb.keep0 c6
          replace hsz := hsz.keep0 c6
          replace bP := bP.keep0 c6
          replace hcz := hcz.then c6
          clear c6
          go_wp2_with fail
          refine hK.out _ _ ?_ (fun hHeld => ?_)
          · exact ⟨hb.c0, hb.c1, hb.c2⟩
          clear hK K'
          try simp only [Act.put, List.setIfInBounds_toArray, List.set_cons_zero, List.set_cons_succ]
          refine wpAnyH_take (i := 8) (v := ?_) rfl (by kernel_rfl) (by kernel_rfl) (by kernel_rfl) (fun _ _ _ h => h) (Or.inl ⟨by rfl, ?_⟩) (by assumption) ?_
          rotate_left 1
          · intro w hSw
            try dsimp only at hSw
            go_simp
            try with_reducible rfl
          try simp only [Act.put, List.setIfInBounds_toArray, List.set_cons_zero, List.set_cons_succ]
          refine wpAnyH_take (i := 9) (v := ?_) rfl (by kernel_rfl) (by kernel_rfl) (by kernel_rfl) (fun _ _ _ h => h) (Or.inl ⟨by rfl, ?_⟩) (by assumption) ?_
          rotate_left 1
          · intro w hSw
            try dsimp only at hSw
            go_simp
            try with_reducible rfl
          try simp only [Act.put, List.setIfInBounds_toArray, List.set_cons_zero, List.set_cons_succ]
          refine wpAnyH_take (i := 10) (v := ?_) rfl (by kernel_rfl) (by kernel_rfl) (by kernel_rfl) (fun _ _ _ h => h) (Or.inl ⟨by rfl, ?_⟩) (by assumption) ?_
          rotate_left 1
          · intro w hSw
            try dsimp only at hSw
            go_simp
            try with_reducible rfl
          try simp only [Act.put, List.setIfInBounds_toArray, List.set_cons_zero, List.set_cons_succ]
          refine wpAnyH_ready (rs := [12]) (by kernel_rfl) (by simp) ?_
          refine AllReadyH.cons (o := _) rfl (fun K' hK => ?_) AllReadyH.nil
          have bPc0 := bP.c0
          have bPc1 := bP.c1
          have bPc2 := bP.c2
          have bPf0 := bP.f0
          have bPf1 := bP.f1
          have bPf2 := bP.f2
          have bPl := bP.lt
          go_simp
          refine hK.out _ _ ?_ (fun hHeld => ?_)
          · exact ⟨(hb.st2 (by omega) _ _ _).c0, (hb.st2 (by omega) _ _ _).c1, (hb.st2 (by omega) _ _ _).c2⟩
          clear hK K'
          try simp only [Act.put, List.setIfInBounds_toArray, List.set_cons_zero, List.set_cons_succ]
          clear bPc0 bPc1 bPc2 bPf0 bPf1 bPf2
          refine wpAnyH_take (i := 13) (v := ?_) rfl (by kernel_rfl) (by kernel_rfl) (by kernel_rfl) (fun _ _ _ h => h) (Or.inl ⟨by rfl, ?_⟩) (by assumption) ?_
          rotate_left 1
          · intro w hSw
            try dsimp only at hSw
            go_simp
            try with_reducible rfl
          try simp only [List.getElem_toArray, List.getElem_cons_succ, List.getElem_cons_zero]
          try simp only [Act.put, List.setIfInBounds_toArray, List.set_cons_zero, List.set_cons_succ]
          refine wpAnyH_done (by kernel_rfl) ?_ _
          go_wp2_with fail
          go_meet
          exact ⟨⟨_, zz, rfl, rfl, HZZ.out, bP.store _ _ _⟩, hcz.store3 (.inr la) _ _ _⟩
        refine AllReadyH.cons (o := _) rfl (fun K' hK => ?_) AllReadyH.nil
        go_simp
        refine hK.out _ _ ?_ (fun hHeld => ?_)
        · exact ⟨(hb.keep0 ((Chg.refl [] _).alloc _)).c0, (hb.keep0 ((Chg.refl [] _).alloc _)).c1, (hb.keep0 ((Chg.refl [] _).alloc _)).c2⟩
        clear hK K'
        try simp only [Act.put, List.setIfInBounds_toArray, List.set_cons_zero, List.set_cons_succ]
        have bP := Blk3.alloc wc1 (.bool false) (.string ⟨#[]⟩) (.string ⟨#[]⟩) 30
        have c9 : Chg [] wc1 (wc1.alloc (.cells #[.bool false, .string ⟨#[]⟩, .string ⟨#[]⟩] 30)) := (Chg.refl _ _).alloc _
        have la : _ ≤ wc1.heap.size := hcz.size
        have lg : _ < wc1.heap.size := hb.lt
        replace hb := hb.keep0 c9
        replace hsz := hsz.keep0 c9
        replace hcz := hcz.then c9
        clear c9
        obtain ⟨wq7, HWwq7⟩ := name_it (wc1.alloc (.cells #[.bool false, .string ⟨#[]⟩, .string ⟨#[]⟩] 30))
        obtain ⟨gP, HGgP⟩ := name_it wc1.heap.size
        rw [HWwq7.out] at hb hsz bP hcz hHeld ⊢
        rw [HGgP.out] at bP la lg ⊢
        refine wpAnyH_ready (rs := [5]) (by kernel_rfl) (by simp) ?_
        refine AllReadyH.cons (o := _) rfl (fun K' hK => ?_) AllReadyH.nil
        go_simp
        refine (HCA.out _).mono ?_
        rintro e9 wc8 ⟨rfl, c6⟩
        replace hb := hb.keep0 c6
        replace hsz := hsz.keep0 c6
        replace bP := bP.keep0 c6
        replace hcz := hcz.then c6
        clear c6
        go_wp2_with fail
        refine hK.out _ _ ?_ (fun hHeld => ?_)
        · exact ⟨hb.c0, hb.c1, hb.c2⟩
        clear hK K'
        try simp only [Act.put, List.setIfInBounds_toArray, List.set_cons_zero, List.set_cons_succ]
        refine wpAnyH_ready (rs := [7]) (by kernel_rfl) (by simp) ?_
        refine AllReadyH.cons (o := _) rfl (fun K' hK => ?_) AllReadyH.nil
        go_simp
        refine (HT2.out _ z1 (1 + 1 + 1) Hz1.out.num (by omega) hsz).mono ?_
        rintro e9 wk9 ⟨zz, rfl, hzz, c6⟩
        have HZZ := Lib.hid hzz
        clear hzz
        replace hb := hb.keep0 c6
        replace hsz := hsz.keep0 c6
        replace bP := bP.keep0 c6
        replace hcz := hcz.then c6
        clear c6
        go_wp2_with fail
        refine hK.out _ _ ?_ (fun hHeld => ?_)
        · exact ⟨hb.c0, hb.c1, hb.c2⟩
        clear hK K'
        try simp only [Act.put, List.setIfInBounds_toArray, List.set_cons_zero, List.set_cons_succ]
        refine wpAnyH_take (i := 8) (v := ?_) rfl (by kernel_rfl) (by kernel_rfl) (by kernel_rfl) (fun _ _ _ h => h) (Or.inl ⟨by rfl, ?_⟩) (by assumption) ?_
        rotate_left 1
        · intro w hSw
          try dsimp only at hSw
          go_simp
          try with_reducible rfl
        try simp only [Act.put, List.setIfInBounds_toArray, List.set_cons_zero, List.set_cons_succ]
        refine wpAnyH_take (i := 9) (v := ?_) rfl (by kernel_rfl) (by kernel_rfl) (by kernel_rfl) (fun _ _ _ h => h) (Or.inl ⟨by rfl, ?_⟩) (by assumption) ?_
        rotate_left 1
        · intro w hSw
          try dsimp only at hSw
          go_simp
          try with_reducible rfl
        try simp only [Act.put, List.setIfInBounds_toArray, List.set_cons_zero, List.set_cons_succ]
        refine wpAnyH_take (i := 10) (v := ?_) rfl (by kernel_rfl) (by kernel_rfl) (by kernel_rfl) (fun _ _ _ h => h) (Or.inl ⟨by rfl, ?_⟩) (by assumption) ?_
        rotate_left 1
        · intro w hSw
          try dsimp only at hSw
          go_simp
          try with_reducible rfl
        try simp only [Act.put, List.setIfInBounds_toArray, List.set_cons_zero, List.set_cons_succ]
        refine wpAnyH_ready (rs := [12]) (by kernel_rfl) (by simp) ?_
        refine AllReadyH.cons (o := _) rfl (fun K' hK => ?_) AllReadyH.nil
        have bPc0 := bP.c0
        have bPc1 := bP.c1
        have bPc2 := bP.c2
        have bPf0 := bP.f0
        have bPf1 := bP.f1
        have bPf2 := bP.f2
        have bPl := bP.lt
        go_simp
        refine hK.out _ _ ?_ (fun hHeld => ?_)
        · exact ⟨(hb.st2 (by omega) _ _ _).c0, (hb.st2 (by omega) _ _ _).c1, (hb.st2 (by omega) _ _ _).c2⟩
        clear hK K'
        try simp only [Act.put, List.setIfInBounds_toArray, List.set_cons_zero, List.set_cons_succ]
        clear bPc0 bPc1 bPc2 bPf0 bPf1 bPf2
        refine wpAnyH_take (i := 13) (v := ?_) rfl (by kernel_rfl) (by kernel_rfl) (by kernel_rfl) (fun _ _ _ h => h) (Or.inl ⟨by rfl, ?_⟩) (by assumption) ?_
        rotate_left 1
        · intro w hSw
          try dsimp only at hSw
          go_simp
          try with_reducible rfl
        try simp only [List.getElem_toArray, List.getElem_cons_succ, List.getElem_cons_zero]
        try simp only [Act.put, List.setIfInBounds_toArray, List.set_cons_zero, List.set_cons_succ]
        refine wpAnyH_done (by kernel_rfl) ?_ _
        go_wp2_with fail
        go_meet
        exact ⟨⟨_, zz, rfl, rfl, HZZ.out, bP.store _ _ _⟩, hcz.store3 (.inr la) _ _ _⟩
      refine AllReadyH.cons (o := _) rfl (fun K' hK => ?_) AllReadyH.nil
      go_simp
      refine hK.out _ _ ?_ (fun hHeld => ?_)
      · exact ⟨(hb.keep0 ((Chg.refl [] _).alloc _)).c0, (hb.keep0 ((Chg.refl [] _).alloc _)).c1, (hb.keep0 ((Chg.refl [] _).alloc _)).c2⟩
      clear hK K'
      try simp only [Act.put, List.setIfInBounds_toArray, List.set_cons_zero, List.set_cons_succ]
      have bP := Blk3.alloc wz (.bool false) (.string ⟨#[]⟩) (.string ⟨#[]⟩) 30
      have c9 : Chg [] wz (wz.alloc (.cells #[.bool false, .string ⟨#[]⟩, .string ⟨#[]⟩] 30)) := (Chg.refl _ _).alloc _
      have la : _ ≤ wz.heap.size := hcz.size
      have lg : _ < wz.heap.size := hb.lt
      replace hb := hb.keep0 c9
      replace hsz := hsz.keep0 c9
      replace hcz := hcz.then c9
      clear c9
      obtain ⟨wq10, HWwq10⟩ := name_it (wz.alloc (.cells #[.bool false, .string ⟨#[]⟩, .string ⟨#[]⟩] 30))
      obtain ⟨gP, HGgP⟩ := name_it wz.heap.size
      rw [HWwq10.out] at hb hsz bP hcz hHeld ⊢
      rw [HGgP.out] at bP la lg ⊢
      refine wpAnyH_ready (rs := [3]) (by kernel_rfl) (by simp) ?_
      refine AllReadyH.cons (o := _) rfl (fun K' hK => ?_) AllReadyH.nil
      go_simp
      refine (HCB.out _).mono ?_
      rintro e9 wc11 ⟨rfl, c6⟩
      replace hb := hb.keep0 c6
      replace hsz := hsz.keep0 c6
      replace bP := bP.keep0 c6
      replace hcz := hcz.then c6
      clear c6
      go_wp2_with fail
      refine hK.out _ _ ?_ (fun hHeld => ?_)
      · exact ⟨hb.c0, hb.c1, hb.c2⟩
      clear hK K'
      try simp only [Act.put, List.setIfInBounds_toArray, List.set_cons_zero, List.set_cons_succ]
      refine wpAnyH_ready (rs := [5]) (by kernel_rfl) (by simp) ?_
      refine AllReadyH.cons (o := _) rfl (fun K' hK => ?_) AllReadyH.nil
      go_simp
      refine (HCA.out _).mono ?_
      rintro e9 wc12 ⟨rfl, c6⟩
      replace hb := hb.keep0 c6
      replace hsz := hsz.keep0 c6
      replace bP := bP.keep0 c6
      replace hcz := hcz.then c6
      clear c6
      go_wp2_with fail
      refine hK.out _ _ ?_ (fun hHeld => ?_)
      · exact ⟨hb.c0, hb.c1, hb.c2⟩
      clear hK K'
      try simp only [Act.put, List.setIfInBounds_toArray, List.set_cons_zero, List.set_cons_succ]
      refine wpAnyH_ready (rs := [7]) (by kernel_rfl) (by simp) ?_
      refine AllReadyH.cons (o := _) rfl (fun K' hK => ?_) AllReadyH.nil
      go_simp
      refine (HT2.out _ z1 (1 + 1 + 1) Hz1.out.num (by omega) hsz).mono ?_
      rintro e9 wk13 ⟨zz, rfl, hzz, c6⟩
      have HZZ := Lib.hid hzz
      clear hzz
      replace hb := hb.keep0 c6
      replace hsz := hsz.keep0 c6
      replace bP := bP.keep0 c6
      replace hcz := hcz.then c6
      clear c6
      go_wp2_with fail
      refine hK.out _ _ ?_ (fun hHeld => ?_)
      · exact ⟨hb.c0, hb.c1, hb.c2⟩
      clear hK K'
      try simp only [Act.put, List.setIfInBounds_toArray, List.set_cons_zero, List.set_cons_succ]
      refine wpAnyH_take (i := 8) (v := ?_) rfl (by kernel_rfl) (by kernel_rfl) (by kernel_rfl) (fun _ _ _ h => h) (Or.inl ⟨by rfl, ?_⟩) (by assumption) ?_
      rotate_left 1
      · intro w hSw
        try dsimp only at hSw
        go_simp
        try with_reducible rfl
      try simp only [Act.put, List.setIfInBounds_toArray, List.set_cons_zero, List.set_cons_succ]
      refine wpAnyH_take (i := 9) (v := ?_) rfl (by kernel_rfl) (by kernel_rfl) (by kernel_rfl) (fun _ _ _ h => h) (Or.inl ⟨by rfl, ?_⟩) (by assumption) ?_
      rotate_left 1
      · intro w hSw
        try dsimp only at hSw
        go_simp
        try with_reducible rfl
      try simp only [Act.put, List.setIfInBounds_toArray, List.set_cons_zero, List.set_cons_succ]
      refine wpAnyH_take (i := 10) (v := ?_) rfl (by kernel_rfl) (by kernel_rfl) (by kernel_rfl) (fun _ _ _ h => h) (Or.inl ⟨by rfl, ?_⟩) (by assumption) ?_
      rotate_left 1
      · intro w hSw
        try dsimp only at hSw
        go_simp
        try with_reducible rfl
      try simp only [Act.put, List.setIfInBounds_toArray, List.set_cons_zero, List.set_cons_succ]
      refine wpAnyH_ready (rs := [12]) (by kernel_rfl) (by simp) ?_
      refine AllReadyH.cons (o := _) rfl (fun K' hK => ?_) AllReadyH.nil
      have bPc0 := bP.c0
      have bPc1 := bP.c1
      have bPc2 := bP.c2
      have bPf0 := bP.f0
      have bPf1 := bP.f1
      have bPf2 := bP.f2
      have bPl := bP.lt
      go_simp
      refine hK.out _ _ ?_ (fun hHeld => ?_)
      · exact ⟨(hb.st2 (by omega) _ _ _).c0, (hb.st2 (by omega) _ _ _).c1, (hb.st2 (by omega) _ _ _).c2⟩
      clear hK K'
      try simp only [Act.put, List.setIfInBounds_toArray, List.set_cons_zero, List.set_cons_succ]
      clear bPc0 bPc1 bPc2 bPf0 bPf1 bPf2
      refine wpAnyH_take (i := 13) (v := ?_) rfl (by kernel_rfl) (by kernel_rfl) (by kernel_rfl) (fun _ _ _ h => h) (Or.inl ⟨by rfl, ?_⟩) (by assumption) ?_
      rotate_left 1
      · intro w hSw
        try dsimp only at hSw
        go_simp
        try with_reducible rfl
      try simp only [List.getElem_toArray, List.getElem_cons_succ, List.getElem_cons_zero]
      try simp only [Act.put, List.setIfInBounds_toArray, List.set_cons_zero, List.set_cons_succ]
      refine wpAnyH_done (by kernel_rfl) ?_ _
      go_wp2_with fail
      go_meet
      exact ⟨⟨_, zz, rfl, rfl, HZZ.out, bP.store _ _ _⟩, hcz.store3 (.inr la) _ _ _⟩
    case rest =>
      obtain ⟨⟨g18, z2, rfl, rfl, hz2, b18⟩, c9⟩ := hcut
      have Hz2 := Lib.hid hz2
      replace hch := hch.then c9
      replace hs := hs.keep0 c9
      replace b14 := b14.keep0 c9
      replace b16 := b16.keep0 c9
      clear c9 hz2 HT2
      rename World => wy2
      go_wp2_with fail
      go_cut [20, 21] (fun pv ev wx => KB5 wy2 wx pv ev e3 v3 (1 + 1 + 1))
      case first =>
        have hb := b14
        have hcz : Chg [] wy2 wy2.drew := (Chg.refl _ _).drew
        replace hb := hb.keep0 hcz
        have hsz := hs.keep0 hcz
        clear hch hs b14 b16 b18
        refine wp_region_held_drew (S := (fun w' => w'.cell? ⟨g14, 0, none⟩ = some (.bool z0.neg) ∧ w'.cell? ⟨g14, 1, none⟩ = some (.string z0.num) ∧ w'.cell? ⟨g14, 2, none⟩ = some (.string z0.den))) (by kernel_rfl) ?_ (fun hHeld => ?_)
        · exact ⟨hb.c0, hb.c1, hb.c2⟩
        obtain ⟨wz, HWz⟩ := name_it wy2.drew
        rw [HWz.out] at hb hsz hcz hHeld ⊢
        refine wpAnyH_take (i := 0) (v := ?_) rfl (by kernel_rfl) (by kernel_rfl) (by kernel_rfl) (fun _ _ _ h => h) (Or.inl ⟨by rfl, ?_⟩) (by assumption) ?_
        rotate_left 1
        · intro w hSw
          try dsimp only at hSw
          go_simp
          try with_reducible rfl
        try simp only [Act.put, List.setIfInBounds_toArray, List.set_cons_zero, List.set_cons_succ]
        refine wpAnyH_take (i := 1) (v := ?_) rfl (by kernel_rfl) (by kernel_rfl) (by kernel_rfl) (fun _ _ _ h => h) (Or.inl ⟨by rfl, ?_⟩) (by assumption) ?_
        rotate_left 1
        · intro w hSw
          try dsimp only at hSw
          go_simp
          try with_reducible rfl
        try simp only [Act.put, List.setIfInBounds_toArray, List.set_cons_zero, List.set_cons_succ]
        refine wpAnyH_take (i := 2) (v := ?_) rfl (by kernel_rfl) (by kernel_rfl) (by kernel_rfl) (fun _ _ _ h => h) (Or.inl ⟨by rfl, ?_⟩) (by assumption) ?_
        rotate_left 1
        · intro w hSw
          try dsimp only at hSw
          go_simp
          try with_reducible rfl
        try simp only [Act.put, List.setIfInBounds_toArray, List.set_cons_zero, List.set_cons_succ]
        refine wpAnyH_take (i := 4) (v := ?_) rfl (by kernel_rfl) (by kernel_rfl) (by kernel_rfl) (fun _ _ _ h => h) (Or.inl ⟨by rfl, ?_⟩) (by assumption) ?_
        rotate_left 1
        · intro w hSw
          try dsimp only at hSw
          go_simp
          try with_reducible rfl
        try simp only [Act.put, List.setIfInBounds_toArray, List.set_cons_zero, List.set_cons_succ]
        refine wpAnyH_take (i := 6) (v := ?_) rfl (by kernel_rfl) (by kernel_rfl) (by kernel_rfl) (fun _ _ _ h => h) (Or.inl ⟨by rfl, ?_⟩) (by assumption) ?_
        rotate_left 1
        · intro w hSw
          try dsimp only at hSw
          go_simp
          try with_reducible rfl
        try simp only [Act.put, List.setIfInBounds_toArray, List.set_cons_zero, List.set_cons_succ]
        refine wpAnyH_ready (rs := [3, 11]) (by kernel_rfl) (by simp) ?_
        refine AllReadyH.cons (o := _) rfl (fun K' hK => ?_) ?_
        · go_simp
          refine (HCA.out _).mono ?_
          rintro e9 wc1 ⟨rfl, c6⟩
          replace hb := hb.keep0 c6
          replace hsz := hsz.keep0 c6
          replace hcz := hcz.then c6
          clear c6
          go_wp2_with fail
          refine hK.out _ _ ?_ (fun hHeld => ?_)
          · exact ⟨hb.c0, hb.c1, hb.c2⟩
          clear hK K'
          try simp only [Act.put, List.setIfInBounds_toArray, List.set_cons_zero, List.set_cons_succ]
          refine wpAnyH_ready (rs := [5, 11]) (by kernel_rfl) (by simp) ?_
          refine AllReadyH.cons (o := _) rfl (fun K' hK => ?_) ?_
          · go_simp
            refine (HCC.out _).mono ?_
            rintro e9 wc2 ⟨rfl, c6⟩
            replace hb := hb.keep0 c6
            replace hsz := hsz.keep0 c6
            replace hcz := hcz.then c6
            clear c6
            go_wp2_with fail
            refine hK.out _ _ ?_ (fun hHeld => ?_)
            · exact ⟨hb.c0, hb.c1, hb.c2⟩
            clear hK K'
            try simp only [Act.put, List.setIfInBounds_toArray, List.set_cons_zero, List.set_cons_succ]
            refine wpAnyH_ready (rs := [7, 11]) (by kernel_rfl) (by simp) ?_
            refine AllReadyH.cons (o := _) rfl (fun K' hK => ?_) ?_
            · go_simp
              refine (HT3.out _ z0 1 H0.out.num (by omega) hsz).mono ?_
              rintro e9 wk3 ⟨zz, rfl, hzz, c6⟩
              have HZZ := Lib.hid hzz
              clear hzz
              replace hb := hb.keep0 c6
              replace hsz := hsz.keep0 c6
              replace hcz := hcz.then c6
              clear c6
              go_wp2_with fail
              refine hK.out _ _ ?_ (fun hHeld => ?_)
              · exact ⟨hb.c0, hb.c1, hb.c2⟩
              clear hK K'
              try simp only [Act.put, List.setIfInBounds_toArray, List.set_cons_zero, List.set_cons_succ]
              refine wpAnyH_take (i := 8) (v := ?_) rfl (by kernel_rfl) (by kernel_rfl) (by kernel_rfl) (fun _ _ _ h => h) (Or.inl ⟨by rfl, ?_⟩) (by assumption) ?_
              rotate_left 1
              · intro w hSw
                try dsimp only at hSw
                go_simp
                try with_reducible rfl
              try simp only [Act.put, List.setIfInBounds_toArray, List.set_cons_zero, List.set_cons_succ]
              refine wpAnyH_take (i := 9) (v := ?_) rfl (by kernel_rfl) (by kernel_rfl) (by kernel_rfl) (fun _ _ _ h => h) (Or.inl ⟨by rfl, ?_⟩) (by assumption) ?_
              rotate_left 1
              · intro w hSw
                try dsimp only at hSw
                go_simp
                try with_reducible rfl
              try simp only [Act.put, List.setIfInBounds_toArray, List.set_cons_zero, List.set_cons_succ]
              refine wpAnyH_take (i := 10) (v := ?_) rfl (by kernel_rfl) (by kernel_rfl) (by kernel_rfl) (fun _ _ _ h => h) (Or.inl ⟨by rfl, ?_⟩) (by assumption) ?_
              rotate_left 1
              · intro w hSw
                try dsimp only at hSw
                go_simp
                try with_reducible rfl
              try simp only [Act.put, List.setIfInBounds_toArray, List.set_cons_zero, List.set_cons_succ]
              refine wpAnyH_ready (rs := [11]) (by kernel_rfl) (by simp) ?_
              refine AllReadyH.cons (o := _) rfl (fun K' hK => ?_) AllReadyH.nil
              go_simp
              refine hK.out _ _ ?_ (fun hHeld => ?_)
              · exact ⟨(hb.keep0 ((Chg.refl [] _).alloc _)).c0, (hb.keep0 ((Chg.refl [] _).alloc _)).c1, (hb.keep0 ((Chg.refl [] _).alloc _)).c2⟩
              clear hK K'
              try simp only [Act.put, List.setIfInBounds_toArray, List.set_cons_zero, List.set_cons_succ]
              have bP := Blk3.alloc wk3 (.bool false) (.string ⟨#[]⟩) (.string ⟨#[]⟩) 30
              have c9 : Chg [] wk3 (wk3.alloc (.cells #[.bool false, .string ⟨#[]⟩, .string ⟨#[]⟩] 30)) := (Chg.refl _ _).alloc _
              have la : _ ≤ wk3.heap.size := hcz.size
              have lg : _ < wk3.heap.size := hb.lt
              replace hb := hb.keep0 c9
              replace hsz := hsz.keep0 c9
              replace hcz := hcz.then c9
              clear c9
              obtain ⟨wq4, HWwq4⟩ := name_it (wk3.alloc (.cells #[.bool false, .string ⟨#[]⟩, .string ⟨#[]⟩] 30))
              obtain ⟨gP, HGgP⟩ := name_it wk3.heap.size
              rw [HWwq4.out] at hb hsz bP hcz hHeld ⊢
              rw [HGgP.out] at bP la lg ⊢
              refine wpAnyH_ready (rs := [12]) (by kernel_rfl) (by simp) ?_
              refine AllReadyH.cons (o := _) rfl (fun K' hK => ?_) AllReadyH.nil
              have bPc0 := bP.c0
              have bPc1 := bP.c1
              have bPc2 := bP.c2
              have bPf0 := bP.f0
              have bPf1 := bP.f1
              have bPf2 := bP.f2
              have bPl := bP.lt
              go_simp
              refine hK.out _ _ ?_ (fun hHeld => ?_)
              · exact ⟨(hb.st2 (by omega) _ _ _).c0, (hb.st2 (by omega) _ _ _).c1, (hb.st2 (by omega) _ _ _).c2⟩
              clear hK K'
              try simp only [Act.put, List.setIfInBounds_toArray, List.set_cons_zero, List.set_cons_succ]
              clear bPc0 bPc1 bPc2 bPf0 bPf1 bPf2
              refine wpAnyH_take (i := 13) (v := ?_) rfl (by kernel_rfl) (by kernel_rfl) (by kernel_rfl) (fun _ _ _ h => h) (Or.inl ⟨by rfl, ?_⟩) (by assumption) ?_
              rotate_left 1
              · intro w hSw
                try dsimp only at hSw
                go_simp
                try with_reducible rfl
              try simp only [List.getElem_toArray, List.getElem_cons_succ, List.getElem_cons_zero]
              try simp only [Act.put, List.setIfInBounds_toArray, List.set_cons_zero, List.set_cons_succ]
              refine wpAnyH_done (by kernel_rfl) ?_ _
              go_wp2_with fail
              go_meet
              exact ⟨⟨_, zz, rfl, rfl, HZZ.out, bP.store _ _ _⟩, hcz.store3 (.inr la) _ _ _⟩
            refine AllReadyH.cons (o := _) rfl (fun K' hK => ?_) AllReadyH.nil
            go_simp
            refine hK.out _ _ ?_ (fun hHeld => ?_)
            · exact ⟨(hb.keep0 ((Chg.refl [] _).alloc _)).c0, (hb.keep0 ((Chg.refl [] _).alloc _)).c1, (hb.keep0 ((Chg.refl [] _).alloc _)).c2⟩
            clear hK K'
            try simp only [Act.put, List.setIfInBounds_toArray, List.set_cons_zero, List.set_cons_succ]
            have bP := Blk3.alloc wc2 (.bool false) (.string ⟨#[]⟩) (.string ⟨#[]⟩) 30
            have c9 : Chg [] wc2 (wc2.alloc (.cells #[.bool false, .string ⟨#[]⟩, .string ⟨#[]⟩] 30)) := (Chg.refl _ _).alloc _
            have la : _ ≤ wc2.heap.size := hcz.size
            have lg : _ < wc2.heap.size := hb.lt
            replace hb := hb.keep0 c9
            replace hsz := hsz.keep0 c9
            replace hcz := hcz.then c9
            clear c9
            obtain ⟨wq5, HWwq5⟩ := name_it (wc2.alloc (.cells #[.bool false, .string ⟨#[]⟩, .string ⟨#[]⟩] 30))
            obtain ⟨gP, HGgP⟩ := name_it wc2.heap.size
            rw [HWwq5.out] at hb hsz bP hcz hHeld ⊢
            rw [HGgP.out] at bP la lg ⊢
            refine wpAnyH_ready (rs := [7]) (by kernel_rfl) (by simp) ?_
            refine AllReadyH.cons (o := _) rfl (fun K' hK => ?_) AllReadyH.nil
            go_simp
            refine (HT3.out _ z0 1 H0.out.num (by omega) hsz).mono ?_
            rintro e9 wk6 ⟨zz, rfl, hzz, c6⟩
            have HZZ := Lib.hid hzz
            clear hzz
            replace hb := hb.keep0 c6
            replace hsz := hsz.keep0 c6
            replace bP := bP.keep0 c6
            replace hcz := hcz.then c6
            clear c6
            go_wp2_with fail
            refine hK.out _ _ ?_ (fun hHeld => ?_)
            · exact ⟨hb.c0, hb.c1, hb.c2⟩
            clear hK K'
            try simp only [Act.put, List.setIfInBounds_toArray, List.set_cons_zero, List.set_cons_succ]
            refine wpAnyH_take (i := 8) (v := ?_) rfl (by kernel_rfl) (by kernel_rfl) (by kernel_rfl) (fun _ _ _ h => h) (Or.inl ⟨by rfl, ?_⟩) (by assumption) ?_
            rotate_left 1
            · intro w hSw
              try dsimp only at hSw
              go_simp
              try with_reducible rfl
            try simp only [Act.put, List.setIfInBounds_toArray, List.set_cons_zero, List.set_cons_succ]
            refine wpAnyH_take (i := 9) (v := ?_) rfl (by kernel_rfl) (by kernel_rfl) (by kernel_rfl) (fun _ _ _ h => h) (Or.inl ⟨by rfl, ?_⟩) (by assumption) ?_
            rotate_left 1
            · intro w hSw
              try dsimp only at hSw
              go_simp
              try with_reducible rfl
            try simp only [Act.put, List.setIfInBounds_toArray, List.set_cons_zero, List.set_cons_succ]
            refine wpAnyH_take (i := 10) (v := ?_) rfl (by kernel_rfl) (by kernel_rfl) (by kernel_rfl) (fun _ _ _ h => h) (Or.inl ⟨by rfl, ?_⟩) (by assumption) ?_
            rotate_left 1
            · intro w hSw
              try dsimp only at hSw
              go_simp
              try with_reducible rfl
            try simp only [Act.put, List.setIfInBounds_toArray, List.set_cons_zero, List.set_cons_succ]
            refine wpAnyH_ready (rs := [12]) (by kernel_rfl) (by simp) ?_
            refine AllReadyH.cons (o := _) rfl (fun K' hK => ?_) AllReadyH.nil
            have bPc0 := bP.c0
            have bPc1 := bP.c1
            have bPc2 := bP.c2
            have bPf0 := bP.f0
            have bPf1 := bP.f1
            have bPf2 := bP.f2
            have bPl := bP.lt
            go_simp
            refine hK.out _ _ ?_ (fun hHeld => ?_)
            · exact ⟨(hb.st2 (by omega) _ _ _).c0, (hb.st2 (by omega) _ _ _).c1, (hb.st2 (by omega) _ _ _).c2⟩
            clear hK K'
            try simp only [Act.put, List.setIfInBounds_toArray, List.set_cons_zero, List.set_cons_succ]
            clear bPc0 bPc1 bPc2 bPf0 bPf1 bPf2
            refine wpAnyH_take (i := 13) (v := ?_) rfl (by kernel_rfl) (by kernel_rfl) (by kernel_rfl) (fun _ _ _ h => h) (Or.inl ⟨by rfl, ?_⟩) (by assumption) ?_
            rotate_left 1
            · intro w hSw
              try dsimp only at hSw
              go_simp
              try with_reducible rfl
            try simp only [List.getElem_toArray, List.getElem_cons_succ, List.getElem_cons_zero]
            try simp only [Act.put, List.setIfInBounds_toArray, List.set_cons_zero, List.set_cons_succ]
            refine wpAnyH_done (by kernel_rfl) ?_ _
            go_wp2_with fail
            go_meet
            exact ⟨⟨_, zz, rfl, rfl, HZZ.out, bP.store _ _ _⟩, hcz.store3 (.inr la) _ _ _⟩
          refine AllReadyH.cons (o := _) rfl (fun K' hK => ?_) AllReadyH.nil
          go_simp
          refine hK.out _ _ ?_ (fun hHeld => ?_)
          · exact ⟨(hb.keep0 ((Chg.refl [] _).alloc _)).c0, (hb.keep0 ((Chg.refl [] _).alloc _)).c1, (hb.keep0 ((Chg.refl [] _).alloc _)).c2⟩
          clear hK K'
          try simp only [Act.put, List.setIfInBounds_toArray, List.set_cons_zero, List.set_cons_succ]
          have bP := Blk3.alloc wc1 (.bool false) (.string ⟨#[]⟩) (.string ⟨#[]⟩) 30
          have c9 : Chg [] wc1 (wc1.alloc (.cells #[.bool false, .string ⟨#[]⟩, .string ⟨#[]⟩] 30)) := (Chg.refl _ _).alloc _
          have la : _ ≤ wc1.heap.size := hcz.size
          have lg : _ < wc1.heap.size := hb.lt
          replace hb := hb.keep0 c9
          replace hsz := hsz.keep0 c9
          replace hcz := hcz.then c9
          clear c9
          obtain ⟨wq7, HWwq7⟩ := name_it (wc1.alloc (.cells #[.bool false, .string ⟨#[]⟩, .string ⟨#[]⟩] 30))
          obtain ⟨gP, HGgP⟩ := name_it wc1.heap.size
          rw [HWwq7.out] at hb hsz bP hcz hHeld ⊢
          rw [HGgP.out] at bP la lg ⊢
          refine wpAnyH_ready (rs := [5]) (by kernel_rfl) (by simp) ?_
          refine AllReadyH.cons (o := _) rfl (fun K' hK => ?_) AllReadyH.nil
          go_simp
          refine (HCC.out _).mono ?_
          rintro e9 wc8 ⟨rfl, c6⟩
          replace hb := hb.keep0 c6
          replace hsz := hsz.keep0 c6
          replace bP := bP.keep0 c6
          replace hcz := hcz.then c6
          clear c6
          go_wp2_with fail
          refine hK.out _ _ ?_ (fun hHeld => ?_)
          · exact ⟨hb.c0, hb.c1, hb.c2⟩
          clear hK K'
          try simp only [Act.put, List.setIfInBounds_toArray, List.set_cons_zero, List.set_cons_succ]
          refine wpAnyH_ready (rs := [7]) (by kernel_rfl) (by simp) ?_
          refine AllReadyH.cons (o := _) rfl (fun K' hK => ?_) AllReadyH.nil
          go_simp
          refine (HT3.out _ z0 1 H0.out.num (by omega) hsz).mono ?_
          rintro e9 wk9 ⟨zz, rfl, hzz, c6⟩
          have HZZ := Lib.hid hzz
          clear hzz
          replace hb := hb.keep0 c6
          replace hsz := hsz.keep0 c6
          replace bP := bP.keep0 c6
          replace hcz := hcz.then c6
          clear c6
          go_wp2_with fail
          refine hK.out _ _ ?_ (fun hHeld => ?_)
          · exact ⟨hb.c0, hb.c1, hb.c2⟩
          clear hK K'
          try simp only [Act.put, List.setIfInBounds_toArray, List.set_cons_zero, List.set_cons_succ]
          refine wpAnyH_take (i := 8) (v := ?_) rfl (by kernel_rfl) (by kernel_rfl) (by kernel_rfl) (fun _ _ _ h => h) (Or.inl ⟨by rfl, ?_⟩) (by assumption) ?_
          rotate_left 1
          · intro w hSw
            try dsimp only at hSw
            go_simp
            try with_reducible rfl
          try simp only [Act.put, List.setIfInBounds_toArray, List.set_cons_zero, List.set_cons_succ]
          refine wpAnyH_take (i := 9) (v := ?_) rfl (by kernel_rfl) (by kernel_rfl) (by kernel_rfl) (fun _ _ _ h => h) (Or.inl ⟨by rfl, ?_⟩) (by assumption) ?_
          rotate_left 1
          · intro w hSw
            try dsimp only at hSw
            go_simp
            try with_reducible rfl
          try simp only [Act.put, List.setIfInBounds_toArray, List.set_cons_zero, List.set_cons_succ]
          refine wpAnyH_take (i := 10) (v := ?_) rfl (by kernel_rfl) (by kernel_rfl) (by kernel_rfl) (fun _ _ _ h => h) (Or.inl ⟨by rfl, ?_⟩) (by assumption) ?_
          rotate_left 1
          · intro w hSw
            try dsimp only at hSw
            go_simp
            try with_reducible rfl
          try simp only [Act.put, List.setIfInBounds_toArray, List.set_cons_zero, List.set_cons_succ]
          refine wpAnyH_ready (rs := [12]) (by kernel_rfl) (by simp) ?_
          refine AllReadyH.cons (o := _) rfl (fun K' hK => ?_) AllReadyH.nil
          have bPc0 := bP.c0
          have bPc1 := bP.c1
          have bPc2 := bP.c2
          have bPf0 := bP.f0
          have bPf1 := bP.f1
          have bPf2 := bP.f2
          have bPl := bP.lt
          go_simp
          refine hK.out _ _ ?_ (fun hHeld => ?_)
          · exact ⟨(hb.st2 (by omega) _ _ _).c0, (hb.st2 (by omega) _ _ _).c1, (hb.st2 (by omega) _ _ _).c2⟩
          clear hK K'
          try simp only [Act.put, List.setIfInBounds_toArray, List.set_cons_zero, List.set_cons_succ]
          clear bPc0 bPc1 bPc2 bPf0 bPf1 bPf2
          refine wpAnyH_take (i := 13) (v := ?_) rfl (by kernel_rfl) (by kernel_rfl) (by kernel_rfl) (fun _ _ _ h => h) (Or.inl ⟨by rfl, ?_⟩) (by assumption) ?_
          rotate_left 1
          · intro w hSw
            try dsimp only at hSw
            go_simp
            try with_reducible rfl
          try simp only [List.getElem_toArray, List.getElem_cons_succ, List.getElem_cons_zero]
          try simp only [Act.put, List.setIfInBounds_toArray, List.set_cons_zero, List.set_cons_succ]
          refine wpAnyH_done (by kernel_rfl) ?_ _
          go_wp2_with fail
          go_meet
          exact ⟨⟨_, zz, rfl, rfl, HZZ.out, bP.store _ _ _⟩, hcz.store3 (.inr la) _ _ _⟩
        refine AllReadyH.cons (o := _) rfl (fun K' hK => ?_) AllReadyH.nil
        go_simp
        refine hK.out _ _ ?_ (fun hHeld => ?_)
        · exact ⟨(hb.keep0 ((Chg.refl [] _).alloc _)).c0, (hb.keep0 ((Chg.refl [] _).alloc _)).c1, (hb.keep0 ((Chg.refl [] _).alloc _)).c2⟩
        clear hK K'
        try simp only [Act.put, List.setIfInBounds_toArray, List.set_cons_zero, List.set_cons_succ]
        have bP := Blk3.alloc wz (.bool false) (.string ⟨#[]⟩) (.string ⟨#[]⟩) 30
        have c9 : Chg [] wz (wz.alloc (.cells #[.bool false, .string ⟨#[]⟩, .string ⟨#[]⟩] 30)) := (Chg.refl _ _).alloc _
        have la : _ ≤ wz.heap.size := hcz.size
        have lg : _ < wz.heap.size := hb.lt
        replace hb := hb.keep0 c9
        replace hsz := hsz.keep0 c9
        replace hcz := hcz.then c9
        clear c9
        obtain ⟨wq10, HWwq10⟩ := name_it (wz.alloc (.cells #[.bool false, .string ⟨#[]⟩, .string ⟨#[]⟩] 30))
        obtain ⟨gP, HGgP⟩ := name_it wz.heap.size
        rw [HWwq10.out] at hb hsz bP hcz hHeld ⊢
        rw [HGgP.out] at bP la lg ⊢
        refine wpAnyH_ready (rs := [3]) (by kernel_rfl) (by simp) ?_
        refine AllReadyH.cons (o := _) rfl (fun K' hK => ?_) AllReadyH.nil
        go_simp
        refine (HCA.out _).mono ?_
        rintro e9 wc11 ⟨rfl, c6⟩
        replace hb := hb.keep0 c6
        replace hsz := hsz.keep0 c6
        replace bP := bP.keep0 c6
        replace hcz := hcz.then c6
        clear c6
        go_wp2_with fail
        refine hK.out _ _ ?_ (fun hHeld => ?_)
        · exact ⟨hb.c0, hb.c1, hb.c2⟩
        clear hK K'
        try simp only [Act.put, List.setIfInBounds_toArray, List.set_cons_zero, List.set_cons_succ]
        refine wpAnyH_ready (rs := [5]) (by kernel_rfl) (by simp) ?_
        refine AllReadyH.cons (o := _) rfl (fun K' hK => ?_) AllReadyH.nil
        go_simp
        refine (HCC.out _).mono ?_
        rintro e9 wc12 ⟨rfl, c6⟩
        replace hb := hb.keep0 c6
        replace hsz := hsz.keep0 c6
        replace bP := bP.keep0 c6
        replace hcz := hcz.then c6
        clear c6
        go_wp2_with fail
        refine hK.out _ _ ?_ (fun hHeld => ?_)
        · exact ⟨hb.c0, hb.c1, hb.c2⟩
        clear hK K'
        try simp only [Act.put, List.setIfInBounds_toArray, List.set_cons_zero, List.set_cons_succ]
        refine wpAnyH_ready (rs := [7]) (by kernel_rfl) (by simp) ?_
        refine AllReadyH.cons (o := _) rfl (fun K' hK => ?_) AllReadyH.nil
        go_simp
        refine (HT3.out _ z0 1 H0.out.num (by omega) hsz).mono ?_
        rintro e9 wk13 ⟨zz, rfl, hzz, c6⟩
        have HZZ := Lib.hid hzz
        clear hzz
        replace hb := hb.keep0 c6
        replace hsz := hsz.keep0 c6
        replace bP := bP.keep0 c6
        replace hcz := hcz.then c6
        clear c6
        go_wp2_with fail
        refine hK.out _ _ ?_ (fun hHeld => ?_)
        · exact ⟨hb.c0, hb.c1, hb.c2⟩
        clear hK K'
        try simp only [Act.put, List.setIfInBounds_toArray, List.set_cons_zero, List.set_cons_succ]
        refine wpAnyH_take (i := 8) (v := ?_) rfl (by kernel_rfl) (by kernel_rfl) (by kernel_rfl) (fun _ _ _ h => h) (Or.inl ⟨by rfl, ?_⟩) (by assumption) ?_
        rotate_left 1
        · intro w hSw
          try dsimp only at hSw
          go_simp
          try with_reducible rfl
        try simp only [Act.put, List.setIfInBounds_toArray, List.set_cons_zero, List.set_cons_succ]
        refine wpAnyH_take (i := 9) (v := ?_) rfl (by kernel_rfl) (by kernel_rfl) (by kernel_rfl) (fun _ _ _ h => h) (Or.inl ⟨by rfl, ?_⟩) (by assumption) ?_
        rotate_left 1
        · intro w hSw
          try dsimp only at hSw
          go_simp
          try with_reducible rfl
        try simp only [Act.put, List.setIfInBounds_toArray, List.set_cons_zero, List.set_cons_succ]
        refine wpAnyH_take (i := 10) (v := ?_) rfl (by kernel_rfl) (by kernel_rfl) (by kernel_rfl) (fun _ _ _ h => h) (Or.inl ⟨by rfl, ?_⟩) (by assumption) ?_
        rotate_left 1
        · intro w hSw
          try dsimp only at hSw
          go_simp
          try with_reducible rfl
        try simp only [Act.put, List.setIfInBounds_toArray, List.set_cons_zero, List.set_cons_succ]
        refine wpAnyH_ready (rs := [12]) (by kernel_rfl) (by simp) ?_
        refine AllReadyH.cons (o := _) rfl (fun K' hK => ?_) AllReadyH.nil
        have bPc0 := bP.c0
        have bPc1 := bP.c1
        have bPc2 := bP.c2
        have bPf0 := bP.f0
        have bPf1 := bP.f1
        have bPf2 := bP.f2
        have bPl := bP.lt
        go_simp
        refine hK.out _ _ ?_ (fun hHeld => ?_)
        · exact ⟨(hb.st2 (by omega) _ _ _).c0, (hb.st2 (by omega) _ _ _).c1, (hb.st2 (by omega) _ _ _).c2⟩
        clear hK K'
        try simp only [Act.put, List.setIfInBounds_toArray, List.set_cons_zero, List.set_cons_succ]
        clear bPc0 bPc1 bPc2 bPf0 bPf1 bPf2
        refine wpAnyH_take (i := 13) (v := ?_) rfl (by kernel_rfl) (by kernel_rfl) (by kernel_rfl) (fun _ _ _ h => h) (Or.inl ⟨by rfl, ?_⟩) (by assumption) ?_
        rotate_left 1
        · intro w hSw
          try dsimp only at hSw
          go_simp
          try with_reducible rfl
        try simp only [List.getElem_toArray, List.getElem_cons_succ, List.getElem_cons_zero]
        try simp only [Act.put, List.setIfInBounds_toArray, List.set_cons_zero, List.set_cons_succ]
        refine wpAnyH_done (by kernel_rfl) ?_ _
        go_wp2_with fail
        go_meet
        exact ⟨⟨_, zz, rfl, rfl, HZZ.out, bP.store _ _ _⟩, hcz.store3 (.inr la) _ _ _⟩
      case rest =>
        obtain ⟨⟨g20, z3, rfl, rfl, hz3, b20⟩, c9⟩ := hcut
        have Hz3 := Lib.hid hz3
        replace hch := hch.then c9
        replace hs := hs.keep0 c9
        replace b14 := b14.keep0 c9
        replace b16 := b16.keep0 c9
        replace b18 := b18.keep0 c9
        clear c9 hz3 HT3
        rename World => wy3
        go_wp2_with fail
        go_cut [22, 23] (fun pv ev wx => KB5 wy3 wx pv ev e4 v4 (1 + 1 + 1 + 1 + 1))
        case first =>
          have hb := b20
          have hcz : Chg [] wy3 wy3.drew := (Chg.refl _ _).drew
          replace hb := hb.keep0 hcz
          have hsz := hs.keep0 hcz
          clear hch hs b14 b16 b18 b20
          refine wp_region_held_drew (S := (fun w' => w'.cell? ⟨g20, 0, none⟩ = some (.bool z3.neg) ∧ w'.cell? ⟨g20, 1, none⟩ = some (.string z3.num) ∧ w'.cell? ⟨g20, 2, none⟩ = some (.string z3.den))) (by kernel_rfl) ?_ (fun hHeld => ?_)
          · exact ⟨hb.c0, hb.c1, hb.c2⟩
          obtain ⟨wz, HWz⟩ := name_it wy3.drew
          rw [HWz.out] at hb hsz hcz hHeld ⊢
          refine wpAnyH_take (i := 0) (v := ?_) rfl (by kernel_rfl) (by kernel_rfl) (by kernel_rfl) (fun _ _ _ h => h) (Or.inl ⟨by rfl, ?_⟩) (by assumption) ?_
          rotate_left 1
          · intro w hSw
            try dsimp only at hSw
            go_simp
            try with_reducible rfl
          try simp only [Act.put, List.setIfInBounds_toArray, List.set_cons_zero, List.set_cons_succ]
          refine wpAnyH_take (i := 1) (v := ?_) rfl (by kernel_rfl) (by kernel_rfl) (by kernel_rfl) (fun _ _ _ h => h) (Or.inl ⟨by rfl, ?_⟩) (by assumption) ?_
          rotate_left 1
          · intro w hSw
            try dsimp only at hSw
            go_simp
            try with_reducible rfl
          try simp only [Act.put, List.setIfInBounds_toArray, List.set_cons_zero, List.set_cons_succ]
          refine wpAnyH_take (i := 2) (v := ?_) rfl (by kernel_rfl) (by kernel_rfl) (by kernel_rfl) (fun _ _ _ h => h) (Or.inl ⟨by rfl, ?_⟩) (by assumption) ?_
          rotate_left 1
          · intro w hSw
            try dsimp only at hSw
            go_simp
            try with_reducible rfl
          try simp only [Act.put, List.setIfInBounds_toArray, List.set_cons_zero, List.set_cons_succ]
          refine wpAnyH_take (i := 4) (v := ?_) rfl (by kernel_rfl) (by kernel_rfl) (by kernel_rfl) (fun _ _ _ h => h) (Or.inl ⟨by rfl, ?_⟩) (by assumption) ?_
          rotate_left 1
          · intro w hSw
            try dsimp only at hSw
            go_simp
            try with_reducible rfl
          try simp only [Act.put, List.setIfInBounds_toArray, List.set_cons_zero, List.set_cons_succ]
          refine wpAnyH_take (i := 6) (v := ?_) rfl (by kernel_rfl) (by kernel_rfl) (by kernel_rfl) (fun _ _ _ h => h) (Or.inl ⟨by rfl, ?_⟩) (by assumption) ?_
          rotate_left 1
          · intro w hSw
            try dsimp only at hSw
            go_simp
            try with_reducible rfl
          try simp only [Act.put, List.setIfInBounds_toArray, List.set_cons_zero, List.set_cons_succ]
          refine wpAnyH_ready (rs := [3, 11]) (by kernel_rfl) (by simp) ?_
          refine AllReadyH.cons (o := _) rfl (fun K' hK => ?_) ?_
          · go_simp
            refine (HCC.out _).mono ?_
            rintro e9 wc1 ⟨rfl, c6⟩
            replace hb := hb.keep0 c6
            replace hsz := hsz.keep0 c6
            replace hcz := hcz.then c6
            clear c6
            go_wp2_with fail
            refine hK.out _ _ ?_ (fun hHeld => ?_)
            · exact ⟨hb.c0, hb.c1, hb.c2⟩
            clear hK K'
            try simp only [Act.put, List.setIfInBounds_toArray, List.set_cons_zero, List.set_cons_succ]
            refine wpAnyH_ready (rs := [5, 11]) (by kernel_rfl) (by simp) ?_
            refine AllReadyH.cons (o := _) rfl (fun K' hK => ?_) ?_
            · go_simp
              refine (HCB.out _).mono ?_
              rintro e9 wc2 ⟨rfl, c6⟩
              replace hb := hb.keep0 c6
              replace hsz := hsz.keep0 c6
              replace hcz := hcz.then c6
              clear c6
              go_wp2_with fail
              refine hK.out _ _ ?_ (fun hHeld => ?_)
              · exact ⟨hb.c0, hb.c1, hb.c2⟩
              clear hK K'
              try simp only [Act.put, List.setIfInBounds_toArray, List.set_cons_zero, List.set_cons_succ]
              refine wpAnyH_ready (rs := [7, 11]) (by kernel_rfl) (by simp) ?_
              refine AllReadyH.cons (o := _) rfl (fun K' hK => ?_) ?_
              · go_simp
                refine (HT4.out _ z3 (1 + 1 + 1) Hz3.out.num (by omega) hsz).mono ?_
                rintro e9 wk3 ⟨zz, rfl, hzz, c6⟩
                have HZZ := Lib.hid hzz
                clear hzz
                replace hb := hb.keep0 c6
                replace hsz := hsz.keep0 c6
                replace hcz := hcz.then c6
                clear c6
                go_wp2_with fail
                refine hK.out _ _ ?_ (fun hHeld => ?_)
                · exact ⟨hb.c0, hb.c1, hb.c2⟩
                clear hK K'
                try simp only [Act.put, List.setIfInBounds_toArray, List.set_cons_zero, List.set_cons_succ]
                refine wpAnyH_take (i := 8) (v := ?_) rfl (by kernel_rfl) (by kernel_rfl) (by kernel_rfl) (fun _ _ _ h => h) (Or.inl ⟨by rfl, ?_⟩) (by assumption) ?_
                rotate_left 1
                · intro w hSw
                  try dsimp only at hSw
                  go_simp
                  try with_reducible rfl
                try simp only [Act.put, List.setIfInBounds_toArray, List.set_cons_zero, List.set_cons_succ]
                refine wpAnyH_take (i := 9) (v := ?_) rfl (by kernel_rfl) (by kernel_rfl) (by kernel_rfl) (fun _ _ _ h => h) (Or.inl ⟨by rfl, ?_⟩) (by assumption) ?_
                rotate_left 1
                · intro w hSw
                  try dsimp only at hSw
                  go_simp
                  try with_reducible rfl
                try simp only [Act.put, List.setIfInBounds_toArray, List.set_cons_zero, List.set_cons_succ]
                refine wpAnyH_take (i := 10) (v := ?_) rfl (by kernel_rfl) (by kernel_rfl) (by kernel_rfl) (fun _ _ _ h => h) (Or.inl ⟨by rfl, ?_⟩) (by assumption) ?_
                rotate_left 1
                · intro w hSw
                  try dsimp only at hSw
                  go_simp
                  try with_reducible rfl
                try simp only [Act.put, List.setIfInBounds_toArray, List.set_cons_zero, List.set_cons_succ]
                refine wpAnyH_ready (rs := [11]) (by kernel_rfl) (by simp) ?_
                refine AllReadyH.cons (o := _) rfl (fun K' hK => ?_) AllReadyH.nil
                go_simp
                refine hK.out _ _ ?_ (fun hHeld => ?_)
                · exact ⟨(hb.keep0 ((Chg.refl [] _).alloc _)).c0, (hb.keep0 ((Chg.refl [] _).alloc _)).c1, (hb.keep0 ((Chg.refl [] _).alloc _)).c2⟩
                clear hK K'
                try simp only [Act.put, List.setIfInBounds_toArray, List.set_cons_zero, List.set_cons_succ]
                have bP := Blk3.alloc wk3 (.bool false) (.string ⟨#[]⟩) (.string ⟨#[]⟩) 30
                have c9 : Chg [] wk3 (wk3.alloc (.cells #[.bool false, .string ⟨#[]⟩, .string ⟨#[]⟩] 30)) := (Chg.refl _ _).alloc _
                have la : _ ≤ wk3.heap.size := hcz.size
                have lg : _ < wk3.heap.size := hb.lt
                replace hb := hb.keep0 c9
                replace hsz := hsz.keep0 c9
                replace hcz := hcz.then c9
                clear c9
                obtain ⟨wq4, HWwq4⟩ := name_it (wk3.alloc (.cells #[.bool false, .string ⟨#[]⟩, .string ⟨#[]⟩] 30))
                obtain ⟨gP, HGgP⟩ := name_it wk3.heap.size
                rw [HWwq4.out] at hb hsz bP hcz hHeld ⊢
                rw [HGgP.out] at bP la lg ⊢
                refine wpAnyH_ready (rs := [12]) (by kernel_rfl) (by simp) ?_
                refine AllReadyH.cons (o := _) rfl (fun K' hK => ?_) AllReadyH.nil
                have bPc0 := bP.c0
                have bPc1 := bP.c1
                have bPc2 := bP.c2
                have bPf0 := bP.f0
                have bPf1 := bP.f1
                have bPf2 := bP.f2
                have bPl := bP.lt
                go_simp
                refine hK.out _ _ ?_ (fun hHeld => ?_)
                · exact ⟨(hb.st2 (by omega) _ _ _).c0, (hb.st2 (by omega) _ _ _).c1, (hb.st2 (by omega) _ _ _).c2⟩
                clear hK K'
                try simp only [Act.put, List.setIfInBounds_toArray, List.set_cons_zero, List.set_cons_succ]
                clear bPc0 bPc1 bPc2 bPf0 bPf1 bPf2
                refine wpAnyH_take (i := 13) (v := ?_) rfl (by kernel_rfl) (by kernel_rfl) (by kernel_rfl) (fun _ _ _ h => h) (Or.inl ⟨by rfl, ?_⟩) (by assumption) ?_
                rotate_left 1
                · intro w hSw
                  try dsimp only at hSw
                  go_simp
                  try with_reducible rfl
                try simp only [List.getElem_toArray, List.getElem_cons_succ, List.getElem_cons_zero]
                try simp only [Act.put, List.setIfInBounds_toArray, List.set_cons_zero, List.set_cons_succ]
                refine wpAnyH_done (by kernel_rfl) ?_ _
                go_wp2_with fail
                go_meet
                exact ⟨⟨_, zz, rfl, rfl, HZZ.out, bP.store _ _ _⟩, hcz.store3 (.inr la) _ _ _⟩
              refine AllReadyH.cons (o := _) rfl (fun K' hK => ?_) AllReadyH.nil
              go_simp
              refine hK.out _ _ ?_ (fun hHeld => ?_)
              · exact ⟨(hb.keep0 ((Chg.refl [] _).alloc _)).c0, (hb.keep0 ((Chg.refl [] _).alloc _)).c1, (hb.keep0 ((Chg.refl [] _).alloc _)).c2⟩
              clear hK K'
              try simp only [Act.put, List.setIfInBounds_toArray, List.set_cons_zero, List.set_cons_succ]
              have bP := Blk3.alloc wc2 (.bool false) (.string ⟨#[]⟩) (.string ⟨#[]⟩) 30
              have c9 : Chg [] wc2 (wc2.alloc (.cells #[.bool false, .string ⟨#[]⟩, .string ⟨#[]⟩] 30)) := (Chg.refl _ _).alloc _
              have la : _ ≤ wc2.heap.size := hcz.size
              have lg : _ < wc2.heap.size := hb.lt
              replace hb := hb.keep0 c9
              replace hsz := hsz.keep0 c9
              replace hcz := hcz.then c9
              clear c9
              obtain ⟨wq5, HWwq5⟩ := name_it (wc2.alloc (.cells #[.bool false, .string ⟨#[]⟩, .string ⟨#[]⟩] 30))
              obtain ⟨gP, HGgP⟩ := name_it wc2.heap.size
              rw [HWwq5.out] at hb hsz bP hcz hHeld ⊢
              rw [HGgP.out] at bP la lg ⊢
              refine wpAnyH_ready (rs := [7]) (by kernel_rfl) (by simp) ?_
              refine AllReadyH.cons (o := _) rfl (fun K' hK => ?_) AllReadyH.nil
              go_simp
              refine (HT4.out _ z3 (1 + 1 + 1) Hz3.out.num (by omega) hsz).mono ?_
              rintro e9 wk6 ⟨zz, rfl, hzz, c6⟩
              have HZZ := Lib.hid hzz
              clear hzz
              replace hb := hb.keep0 c6
              replace hsz := hsz.keep0 c6
              replace bP := bP.keep0 c6
              replace hcz := hcz.then c6
              clear c6
              go_wp2_with fail
              refine hK.out _ _ ?_ (fun hHeld => ?_)
              · exact ⟨hb.c0, hb.c1, hb.c2⟩
              clear hK K'
              try simp only [Act.put, List.setIfInBounds_toArray, List.set_cons_zero, List.set_cons_succ]
              refine wpAnyH_take (i := 8) (v := ?_) rfl (by kernel_rfl) (by kernel_rfl) (by kernel_rfl) (fun _ _ _ h => h) (Or.inl ⟨by rfl, ?_⟩) (by assumption) ?_
              rotate_left 1
              · intro w hSw
                try dsimp only at hSw
                go_simp
                try with_reducible rfl
              try simp only [Act.put, List.setIfInBounds_toArray, List.set_cons_zero, List.set_cons_succ]
              refine wpAnyH_take (i := 9) (v := ?_) rfl (by kernel_rfl) (by kernel_rfl) (by kernel_rfl) (fun _ _ _ h => h) (Or.inl ⟨by rfl, ?_⟩) (by assumption) ?_
              rotate_left 1
              · intro w hSw
                try dsimp only at hSw
                go_simp
                try with_reducible rfl
              try simp only [Act.put, List.setIfInBounds_toArray, List.set_cons_zero, List.set_cons_succ]
              refine wpAnyH_take (i := 10) (v := ?_) rfl (by kernel_rfl) (by kernel_rfl) (by kernel_rfl) (fun _ _ _ h => h) (Or.inl ⟨by rfl, ?_⟩) (by assumption) ?_
              rotate_left 1
              · intro w hSw
                try dsimp only at hSw
                go_simp
                try with_reducible rfl
              try simp only [Act.put, List.setIfInBounds_toArray, List.set_cons_zero, List.set_cons_succ]
              refine wpAnyH_ready (rs := [12]) (by kernel_rfl) (by simp) ?_
              refine AllReadyH.cons (o := _) rfl (fun K' hK => ?_) AllReadyH.nil
              have bPc0 := bP.c0
              have bPc1 := bP.c1
              have bPc2 := bP.c2
              have bPf0 := bP.f0
              have bPf1 := bP.f1
              have bPf2 := bP.f2
              have bPl := bP.lt
              go_simp
              refine hK.out _ _ ?_ (fun hHeld => ?_)
              · exact ⟨(hb.st2 (by omega) _ _ _).c0, (hb.st2 (by omega) _ _ _).c1, (hb.st2 (by omega) _ _ _).c2⟩
              clear hK K'
              try simp only [Act.put, List.setIfInBounds_toArray, List.set_cons_zero, List.set_cons_succ]
              clear bPc0 bPc1 bPc2 bPf0 bPf1 bPf2
              refine wpAnyH_take (i := 13) (v := ?_) rfl (by kernel_rfl) (by kernel_rfl) (by kernel_rfl) (fun _ _ _ h => h) (Or.inl ⟨by rfl, ?_⟩) (by assumption) ?_
              rotate_left 1
              · intro w hSw
                try dsimp only at hSw
                go_simp
                try with_reducible rfl
              try simp only [List.getElem_toArray, List.getElem_cons_succ, List.getElem_cons_zero]
              try simp only [Act.put, List.setIfInBounds_toArray, List.set_cons_zero, List.set_cons_succ]
              refine wpAnyH_done (by kernel_rfl) ?_ _
              go_wp2_with fail
              go_meet
              exact ⟨⟨_, zz, rfl, rfl, HZZ.out, bP.store _ _ _⟩, hcz.store3 (.inr la) _ _ _⟩
            refine AllReadyH.cons (o := _) rfl (fun K' hK => ?_) AllReadyH.nil
            go_simp
            refine hK.out _ _ ?_ (fun hHeld => ?_)
            · exact ⟨(hb.keep0 ((Chg.refl [] _).alloc _)).c0, (hb.keep0 ((Chg.refl [] _).alloc _)).c1, (hb.keep0 ((Chg.refl [] _).alloc _)).c2⟩
            clear hK K'
            try simp only [Act.put, List.setIfInBounds_toArray, List.set_cons_zero, List.set_cons_succ]
            have bP := Blk3.alloc wc1 (.bool false) (.string ⟨#[]⟩) (.string ⟨#[]⟩) 30
            have c9 : Chg [] wc1 (wc1.alloc (.cells #[.bool false, .string ⟨#[]⟩, .string ⟨#[]⟩] 30)) := (Chg.refl _ _).alloc _
            have la : _ ≤ wc1.heap.size := hcz.size
            have lg : _ < wc1.heap.size := hb.lt
            replace hb := hb.keep0 c9
            replace hsz := hsz.keep0 c9
            replace hcz := hcz.then c9
            clear c9
            obtain ⟨wq7, HWwq7⟩ := name_it (wc1.alloc (.cells #[.bool false, .string ⟨#[]⟩, .string ⟨#[]⟩] 30))
            obtain ⟨gP, HGgP⟩ := name_it wc1.heap.size
            rw [HWwq7.out] at hb hsz bP hcz hHeld ⊢
            rw [HGgP.out] at bP la lg ⊢
            refine wpAnyH_ready (rs := [5]) (by kernel_rfl) (by simp) ?_
            refine AllReadyH.cons (o := _) rfl (fun K' hK => ?_) AllReadyH.nil
            go_simp
            refine (HCB.out _).mono ?_
            rintro e9 wc8 ⟨rfl, c6⟩
            replace hb := hb.keep0 c6
            replace hsz := hsz.keep0 c6
            replace bP := bP.keep0 c6
            replace hcz := hcz.then c6
            clear c6
            go_wp2_with fail
            refine hK.out _ _ ?_ (fun hHeld => ?_)
            · exact ⟨hb.c0, hb.c1, hb.c2⟩
            clear hK K'
            try simp only [Act.put, List.setIfInBounds_toArray, List.set_cons_zero, List.set_cons_succ]
            refine wpAnyH_ready (rs := [7]) (by kernel_rfl) (by simp) ?_
            refine AllReadyH.cons (o := _) rfl (fun K' hK => ?_) AllReadyH.nil
            go_simp
            refine (HT4.out _ z3 (1 + 1 + 1) Hz3.out.num (by omega) hsz).mono ?_
            rintro e9 wk9 ⟨zz, rfl, hzz, c6⟩
            have HZZ := Lib.hid hzz
            clear hzz
            replace hb := hb.keep0 c6
            replace hsz := hsz.keep0 c6
            replace bP := bP.keep0 c6
            replace hcz := hcz.then c6
            clear c6
            go_wp2_with fail
            refine hK.out _ _ ?_ (fun hHeld => ?_)
            · exact ⟨hb.c0, hb.c1, hb.c2⟩
            clear hK K'
            try simp only [Act.put, List.setIfInBounds_toArray, List.set_cons_zero, List.set_cons_succ]
            refine wpAnyH_take (i := 8) (v := ?_) rfl (by kernel_rfl) (by kernel_rfl) (by kernel_rfl) (fun _ _ _ h => h) (Or.inl ⟨by rfl, ?_⟩) (by assumption) ?_
            rotate_left 1
            · intro w hSw
              try dsimp only at hSw
              go_simp
              try with_reducible rfl
            try simp only [Act.put, List.setIfInBounds_toArray, List.set_cons_zero, List.set_cons_succ]
            refine wpAnyH_take (i := 9) (v := ?_) rfl (by kernel_rfl) (by kernel_rfl) (by kernel_rfl) (fun _ _ _ h => h) (Or.inl ⟨by rfl, ?_⟩) (by assumption) ?_
            rotate_left 1
            · intro w hSw
              try dsimp only at hSw
              go_simp
              try with_reducible rfl
            try simp only [Act.put, List.setIfInBounds_toArray, List.set_cons_zero, List.set_cons_succ]
            refine wpAnyH_take (i := 10) (v := ?_) rfl (by kernel_rfl) (by kernel_rfl) (by kernel_rfl) (fun _ _ _ h => h) (Or.inl ⟨by rfl, ?_⟩) (by assumption) ?_
            rotate_left 1
            · intro w hSw
              try dsimp only at hSw
              go_simp
              try with_reducible rfl
            try simp only [Act.put, List.setIfInBounds_toArray, List.set_cons_zero, List.set_cons_succ]
            refine wpAnyH_ready (rs := [12]) (by kernel_rfl) (by simp) ?_
            refine AllReadyH.cons (o := _) rfl (fun K' hK => ?_) AllReadyH.nil
            have bPc0 := bP.c0
            have bPc1 := bP.c1
            have bPc2 := bP.c2
            have bPf0 := bP.f0
            have bPf1 := bP.f1
            have bPf2 := bP.f2
            have bPl := bP.lt
            go_simp
            refine hK.out _ _ ?_ (fun hHeld => ?_)
            · exact ⟨(hb.st2 (by omega) _ _ _).c0, (hb.st2 (by omega) _ _ _).c1, (hb.st2 (by omega) _ _ _).c2⟩
            clear hK K'
            try simp only [Act.put, List.setIfInBounds_toArray, List.set_cons_zero, List.set_cons_succ]
            clear bPc0 bPc1 bPc2 bPf0 bPf1 bPf2
            refine wpAnyH_take (i := 13) (v := ?_) rfl (by kernel_rfl) (by kernel_rfl) (by kernel_rfl) (fun _ _ _ h => h) (Or.inl ⟨by rfl, ?_⟩) (by assumption) ?_
            rotate_left 1
            · intro w hSw
              try dsimp only at hSw
              go_simp
              try with_reducible rfl
            try simp only [List.getElem_toArray, List.getElem_cons_succ, List.getElem_cons_zero]
            try simp only [Act.put, List.setIfInBounds_toArray, List.set_cons_zero, List.set_cons_succ]
            refine wpAnyH_done (by kernel_rfl) ?_ _
            go_wp2_with fail
            go_meet
            exact ⟨⟨_, zz, rfl, rfl, HZZ.out, bP.store _ _ _⟩, hcz.store3 (.inr la) _ _ _⟩
          refine AllReadyH.cons (o := _) rfl (fun K' hK => ?_) AllReadyH.nil
          go_simp
          refine hK.out _ _ ?_ (fun hHeld => ?_)
          · exact ⟨(hb.keep0 ((Chg.refl [] _).alloc _)).c0, (hb.keep0 ((Chg.refl [] _).alloc _)).c1, (hb.keep0 ((Chg.refl [] _).alloc _)).c2⟩
          clear hK K'
          try simp only [Act.put, List.setIfInBounds_toArray, List.set_cons_zero, List.set_cons_succ]
          have bP := Blk3.alloc wz (.bool false) (.string ⟨#[]⟩) (.string ⟨#[]⟩) 30
          have c9 : Chg [] wz (wz.alloc (.cells #[.bool false, .string ⟨#[]⟩, .string ⟨#[]⟩] 30)) := (Chg.refl _ _).alloc _
          have la : _ ≤ wz.heap.size := hcz.size
          have lg : _ < wz.heap.size := hb.lt
          replace hb := hb.keep0 c9
          replace hsz := hsz.keep0 c9
          replace hcz := hcz.then c9
          clear c9
          obtain ⟨wq10, HWwq10⟩ := name_it (wz.alloc (.cells #[.bool false, .string ⟨#[]⟩, .string ⟨#[]⟩] 30))
          obtain ⟨gP, HGgP⟩ := name_it wz.heap.size
          rw [HWwq10.out] at hb hsz bP hcz hHeld ⊢
          rw [HGgP.out] at bP la lg ⊢
          refine wpAnyH_ready (rs := [3]) (by kernel_rfl) (by simp) ?_
          refine AllReadyH.cons (o := _) rfl (fun K' hK => ?_) AllReadyH.nil
          go_simp
          refine (HCC.out _).mono ?_
          rintro e9 wc11 ⟨rfl, c6⟩
          replace hb := hb.keep0 c6
          replace hsz := hsz.keep0 c6
          replace bP := bP.keep0 c6
          replace hcz := hcz.then c6
          clear c6
          go_wp2_with fail
          refine hK.out _ _ ?_ (fun hHeld => ?_)
          · exact ⟨hb.c0, hb.c1, hb.c2⟩
          clear hK K'
          try simp only [Act.put, List.setIfInBounds_toArray, List.set_cons_zero, List.set_cons_succ]
          refine wpAnyH_ready (rs := [5]) (by kernel_rfl) (by simp) ?_
          refine AllReadyH.cons (o := _) rfl (fun K' hK => ?_) AllReadyH.nil
          go_simp
          refine (HCB.out _).mono ?_
          rintro e9 wc12 ⟨rfl, c6⟩
          replace hb := hb.keep0 c6
          replace hsz := hsz.keep0 c6
          replace bP := bP.keep0 c6
          replace hcz := hcz.then c6
          clear c6
          go_wp2_with fail
          refine hK.out _ _ ?_ (fun hHeld => ?_)
          · exact ⟨hb.c0, hb.c1, hb.c2⟩
          clear hK K'
          try simp only [Act.put, List.setIfInBounds_toArray, List.set_cons_zero, List.set_cons_succ]
          refine wpAnyH_ready (rs := [7]) (by kernel_rfl) (by simp) ?_
          refine AllReadyH.cons (o := _) rfl (fun K' hK => ?_) AllReadyH.nil
          go_simp
          refine (HT4.out _ z3 (1 + 1 + 1) Hz3.out.num (by omega) hsz).mono ?_
          rintro e9 wk13 ⟨zz, rfl, hzz, c6⟩
          have HZZ := Lib.hid hzz
          clear hzz
          replace hb := hb.keep0 c6
          replace hsz := hsz.keep0 c6
          replace bP := bP.keep0 c6
          replace hcz := hcz.then c6
          clear c6
          go_wp2_with fail
          refine hK.out _ _ ?_ (fun hHeld => ?_)
          · exact ⟨hb.c0, hb.c1, hb.c2⟩
          clear hK K'
          try simp only [Act.put, List.setIfInBounds_toArray, List.set_cons_zero, List.set_cons_succ]
          refine wpAnyH_take (i := 8) (v := ?_) rfl (by kernel_rfl) (by kernel_rfl) (by kernel_rfl) (fun _ _ _ h => h) (Or.inl ⟨by rfl, ?_⟩) (by assumption) ?_
          rotate_left 1
          · intro w hSw
            try dsimp only at hSw
            go_simp
            try with_reducible rfl
          try simp only [Act.put, List.setIfInBounds_toArray, List.set_cons_zero, List.set_cons_succ]
          refine wpAnyH_take (i := 9) (v := ?_) rfl (by kernel_rfl) (by kernel_rfl) (by kernel_rfl) (fun _ _ _ h => h) (Or.inl ⟨by rfl, ?_⟩) (by assumption) ?_
          rotate_left 1
          · intro w hSw
            try dsimp only at hSw
            go_simp
            try with_reducible rfl
          try simp only [Act.put, List.setIfInBounds_toArray, List.set_cons_zero, List.set_cons_succ]
          refine wpAnyH_take (i := 10) (v := ?_) rfl (by kernel_rfl) (by kernel_rfl) (by kernel_rfl) (fun _ _ _ h => h) (Or.inl ⟨by rfl, ?_⟩) (by assumption) ?_
          rotate_left 1
          · intro w hSw
            try dsimp only at hSw
            go_simp
            try with_reducible rfl
          try simp only [Act.put, List.setIfInBounds_toArray, List.set_cons_zero, List.set_cons_succ]
          refine wpAnyH_ready (rs := [12]) (by kernel_rfl) (by simp) ?_
          refine AllReadyH.cons (o := _) rfl (fun K' hK => ?_) AllReadyH.nil
          have bPc0 := bP.c0
          have bPc1 := bP.c1
          have bPc2 := bP.c2
          have bPf0 := bP.f0
          have bPf1 := bP.f1
          have bPf2 := bP.f2
          have bPl := bP.lt
          go_simp
          refine hK.out _ _ ?_ (fun hHeld => ?_)
          · exact ⟨(hb.st2 (by omega) _ _ _).c0, (hb.st2 (by omega) _ _ _).c1, (hb.st2 (by omega) _ _ _).c2⟩
          clear hK K'
          try simp only [Act.put, List.setIfInBounds_toArray, List.set_cons_zero, List.set_cons_succ]
          clear bPc0 bPc1 bPc2 bPf0 bPf1 bPf2
          refine wpAnyH_take (i := 13) (v := ?_) rfl (by kernel_rfl) (by kernel_rfl) (by kernel_rfl) (fun _ _ _ h => h) (Or.inl ⟨by rfl, ?_⟩) (by assumption) ?_
          rotate_left 1
          · intro w hSw
            try dsimp only at hSw
            go_simp
            try with_reducible rfl
          try simp only [List.getElem_toArray, List.getElem_cons_succ, List.getElem_cons_zero]
          try simp only [Act.put, List.setIfInBounds_toArray, List.set_cons_zero, List.set_cons_succ]
          refine wpAnyH_done (by kernel_rfl) ?_ _
          go_wp2_with fail
          go_meet
          exact ⟨⟨_, zz, rfl, rfl, HZZ.out, bP.store _ _ _⟩, hcz.store3 (.inr la) _ _ _⟩
        case rest =>
          obtain ⟨⟨g22, z4, rfl, rfl, hz4, b22⟩, c9⟩ := hcut
          have Hz4 := Lib.hid hz4
          replace hch := hch.then c9
          replace hs := hs.keep0 c9
          replace b14 := b14.keep0 c9
          replace b16 := b16.keep0 c9
          replace b18 := b18.keep0 c9
          replace b20 := b20.keep0 c9
          clear c9 hz4 HT4
          by_cases h1 : e1 = 0
          · obtain ⟨m1, m2⟩ := HMATH.out.2.1 h1
            have HM3 := Lib.hid (HMATH.out.2.2 h1)
            rw [m2] at Hz2
            obtain rfl : z2 = z0 := Hz2.out.unique H0.out
            clear HMATH m2
            subst h1 m1
            clear hs b20
            by_cases h3 : e3 = 0
            · obtain ⟨m3, m4⟩ := HM3.out h3
              rw [m4] at Hz4
              obtain rfl : z4 = z1 := Hz4.out.unique Hz1.out
              clear HM3 m4
              subst h3 m3
              have b14c0 := b14.c0
              have b14c1 := b14.c1
              have b14c2 := b14.c2
              have b14f0 := b14.f0
              have b14f1 := b14.f1
              have b14f2 := b14.f2
              have b14l := b14.lt
              have b18c0 := b18.c0
              have b18c1 := b18.c1
              have b18c2 := b18.c2
              have b18f0 := b18.f0
              have b18f1 := b18.f1
              have b18f2 := b18.f2
              have b18l := b18.lt
              go_wp2_with fail
              clear b14c0 b14c1 b14c2 b14f0 b14f1 b14f2 b14l b18c0 b18c1 b18c2 b18f0 b18f1 b18f2 b18l
              refine (awake7_any _).mono ?_
              rintro e wf ⟨rfl, c1⟩
              replace hch := hch.then c1
              replace b16 := b16.keep0 c1
              replace b22 := b22.keep0 c1
              clear c1 b14 b18
              have b16c0 := b16.c0
              have b16c1 := b16.c1
              have b16c2 := b16.c2
              have b16f0 := b16.f0
              have b16f1 := b16.f1
              have b16f2 := b16.f2
              have b16l := b16.lt
              have b22c0 := b22.c0
              have b22c1 := b22.c1
              have b22c2 := b22.c2
              have b22f0 := b22.f0
              have b22f1 := b22.f1
              have b22f2 := b22.f2
              have b22l := b22.lt
              go_wp2_with fail
              go_ret
              exact ⟨by simp, hch⟩
            · have d3 : (e3 == 0) = false := by simp; exact h3
              clear HM3
              have b14c0 := b14.c0
              have b14c1 := b14.c1
              have b14c2 := b14.c2
              have b14f0 := b14.f0
              have b14f1 := b14.f1
              have b14f2 := b14.f2
              have b14l := b14.lt
              have b18c0 := b18.c0
              have b18c1 := b18.c1
              have b18c2 := b18.c2
              have b18f0 := b18.f0
              have b18f1 := b18.f1
              have b18f2 := b18.f2
              have b18l := b18.lt
              go_wp2_with fail
              clear b14c0 b14c1 b14c2 b14f0 b14f1 b14f2 b14l b18c0 b18c1 b18c2 b18f0 b18f1 b18f2 b18l
              refine (awake7_any _).mono ?_
              rintro e wf ⟨rfl, c1⟩
              replace hch := hch.then c1
              replace b16 := b16.keep0 c1
              replace b22 := b22.keep0 c1
              clear c1 b14 b18
              have b16c0 := b16.c0
              have b16c1 := b16.c1
              have b16c2 := b16.c2
              have b16f0 := b16.f0
              have b16f1 := b16.f1
              have b16f2 := b16.f2
              have b16l := b16.lt
              have b22c0 := b22.c0
              have b22c1 := b22.c1
              have b22c2 := b22.c2
              have b22f0 := b22.f0
              have b22f1 := b22.f1
              have b22f2 := b22.f2
              have b22l := b22.lt
              go_wp2_with fail
              go_ret
              exact ⟨by simp, hch⟩
          · have h2 := HMATH.out.1 h1
            have H2 := Lib.hid h2
            have d1 : (e1 == 0) = false := by simp; exact h1
            have d2 : (e2 == 0) = false := by simp; exact h2
            clear HMATH h1 h2 hs b14 b16 b18 b20 b22
            go_wp2_with fail
            refine (awake7_any _).mono ?_
            rintro e wf ⟨rfl, c1⟩
            replace hch := hch.then c1
            clear c1
            go_wp2_with fail
            go_ret
            exact ⟨by simp; exact H2.out, hch⟩
end Go.Proofs.Ytkdcffcgedhllaa
