/-
  Party: exceeded.
-/
import Derived.Test.YtgdpcpbmjgaliaaPX2
import Derived.BigQuiet
namespace Go.Proofs.Ytgdpcpbmjgaliaa
open Go.RowKit Nd

theorem hN_at {P : PD} {X : Nat → Bool} {i c : Nat} (h : P.c i = c) (hx : X (P.o i) = true) : hN P X c (i + 1) = hN P X c i + Vn P i := by simp only [hN]; rw [if_pos ⟨h, hx⟩]
theorem hN_ne {P : PD} {X : Nat → Bool} {i c t : Nat} (h : P.c i = c) (ht : t ≠ c) : hN P X t (i + 1) = hN P X t i := by simp only [hN]; rw [if_neg (fun g => by omega)]; rfl
theorem ovr_true {P : PD} (hp : ∀ i, i < P.m → 0 < P.q i) {i c : Nat} (hi : i < P.m) (hc : c < P.n) (h : Un P c < hN P (fun _ => true) c (i + 1)) : ovr P = true :=
  ovr_iff.2 ⟨c, hc, (hN_gt hp (Nat.le_refl _)).1 (Nat.lt_of_lt_of_le h (hN_up (by omega)))⟩
theorem ovr_false {P : PD} (hp : ∀ i, i < P.m → 0 < P.q i) (h : ∀ c, hN P (fun _ => true) c P.m ≤ Un P c) : ovr P = false := by
  cases ho : ovr P
  · rfl
  · obtain ⟨k, _, hk⟩ := ovr_iff.1 ho
    have := (hN_gt hp (Nat.le_refl _)).2 hk
    have := h k
    omega
theorem nadd_any (a b z : Nat) (w : World) (ha : a < 256 ^ z) (hb : b < 256 ^ z) (hz : z ≤ 1000000) :
    Calls Try.prog 59 #[.string (nb a), .string (nb b)] w fun e w' => e = .returned (.string (nb (a + b))) ∧ Chg [] w w' := by
  have sa := nb_size ha
  have sb := nb_size hb
  refine (add_any (nb a) (nb b) w (by omega) (by omega)).mono ?_
  rintro e w' ⟨s, rfl, hs, hc⟩
  rw [val_nb, val_nb] at hs
  exact ⟨by rw [nb_of hs], hc⟩
theorem ncmp_any (a b z : Nat) (w : World) (ha : a < 256 ^ z) (hb : b < 256 ^ z) (hz : z ≤ 1000000) :
    Calls Try.prog 62 #[.string (nb a), .string (nb b)] w fun e w' => e = .returned (.int .i64 (ord a b)) ∧ w = w' := by
  have sa := nb_size ha
  have sb := nb_size hb
  have := compare_any (nb a) (nb b) w (by omega) (by omega)
  rw [val_nb, val_nb] at this
  exact this

set_option maxRecDepth 20000 in
set_option linter.unusedSimpArgs false in
set_option maxHeartbeats 4000000 in
theorem exceeded_any (p : PV) (k gv gu : Nat) (w : World) (hp : p.At w) (hc : Cnt w p (pdOf p.K p.S) gv gu) (hm : p.m ≤ 64) (hn : p.n ≤ 1000000) (hG : GoodS p.K p.S) (hF : FitS p.S k) :
    Calls Try.prog 49 #[cntV p gv gu] w fun e w' => e = .returned (.bool (ovr (pdOf p.K p.S))) ∧ Chg [] w w' := by
  have hlow := hp.low
  have HSZ := Lib.hid (hF.sz (K := p.K) (by rw [hp.sn]; exact hm))
  have hpm : (pdOf p.K p.S).m = p.m := hp.sn
  have hpn : (pdOf p.K p.S).n = p.n := hp.kn
  have HZ : Hid (ZP k ≤ 65001) := Lib.hid (ZP_le hF.le)
  have HAT : Hid (∀ i, i < p.m → (p.S.getD i stk0).co = (((pdOf p.K p.S).c i : Nat) : Int) ∧ (pdOf p.K p.S).c i < p.n) := Lib.hid fun i hi => by
    have := hG.at_ (i := i) (by rw [hp.sn]; exact hi)
    exact ⟨this.2.1, by rw [← hp.kn]; exact this.2.2.2⟩
  have HPS := Lib.hid hG.ok.ps
  have HPM := Lib.hid hpm
  have HPN := Lib.hid hpn
  have HSN : Hid (p.S.length = p.m) := Lib.hid hp.sn
  obtain ⟨P, HP⟩ := name_it (pdOf p.K p.S)
  rw [HP.out] at HSZ HAT HPS HPM HPN hc ⊢
  have HOT : Hid (∀ i c, i < P.m → c < P.n → Un P c < hN P (fun _ => true) c (i + 1) → ovr P = true) := Lib.hid fun i c h1 h2 h3 => ovr_true HPS.out h1 h2 h3
  have HOF : Hid ((∀ c, hN P (fun _ => true) c P.m ≤ Un P c) → ovr P = false) := Lib.hid (ovr_false HPS.out)
  obtain ⟨r, HR⟩ := name_it (ovr P)
  rw [HR.out] at HOT HOF ⊢
  have b1 := Blk3.alloc w (.slice p.AS p.m p.cS) (.slice (some ⟨gv, 0, none⟩) p.m p.m) (.slice (some ⟨gu, 0, none⟩) p.n p.n) 63
  have hch : Chg [] w (w.alloc (.cells #[.slice p.AS p.m p.cS, .slice (some ⟨gv, 0, none⟩) p.m p.m, .slice (some ⟨gu, 0, none⟩) p.n p.n] 63)) := (Chg.refl _ _).alloc _
  have hlv := hc.v.lt
  have hlu := hc.u.lt
  replace hp := hp.s.keep0 hch
  replace hc := hc.keep0 hch
  have HLOW := Lib.hid hlow.s
  clear hG hF hpm hpn hlow HP HR
  obtain ⟨K, S, T, n, m, tn, AK, AS, AT, cK, cS, cT⟩ := p
  dsimp only at *
  obtain ⟨iS, hiS, hz0, hz1, hzb⟩ := infoS
  go_enter Try.func49, Try.ntmps49
  have b1c2 := b1.c2
  have b1c0 := b1.c0
  go_wp2_with (first
    | (at_make; refine wpList_makeF _ rfl (.tmp 9) (.tmp 9) 61 rfl 9 iS _ Try.underlying61 hiS hz0 hz1 rfl .i64 .i64 n rfl rfl (by rw [hzb]; omega) (by omega) ?_
       intro w3 hH c3
       replace b1 := b1.keep0 c3
       replace hp := hp.keep0 c3
       replace hc := hc.keep0 c3
       replace hch := hch.then c3
       clear c3 b1c2 b1c0
       have b1c0 := b1.c0)
    | fail)
  rw [World.size_alloc] at hH
  obtain ⟨g0, HG0⟩ := name_it w.heap.size
  rw [HG0.out] at HLOW hlv hlu b1 hH ⊢
  have hg0 : w.heap.size ≤ g0 := Nat.le_of_eq HG0.out
  clear b1c0
  have hH0 : Fb w3 (g0 + 1) n (fun t => .string (nb (hN P (fun _ => true) t 0))) := hH.congr fun t _ => by
    show Value.string ⟨#[]⟩ = .string (nb 0)
    rw [nb_zero]
  clear hH
  go_loopw [14] (fun iv wr => ∃ i : Nat, i ≤ m ∧ iv = .int .i64 i ∧ (∀ c, hN P (fun _ => true) c i ≤ Un P c) ∧ Fb wr (g0 + 1) n (fun t => .string (nb (hN P (fun _ => true) t i))) ∧ Blk3 wr g0 (.slice AS m cS) (.slice (some ⟨gv, 0, none⟩) m m) (.slice (some ⟨gu, 0, none⟩) n n) ∧ SStk wr AS S ∧ Cnt wr ⟨K, S, T, n, m, tn, AK, AS, AT, cK, cS, cT⟩ P gv gu ∧ Chg [] w wr) (fun iv _ => m - (intOf iv).toNat)
  case atStart => exact ⟨0, Nat.zero_le _, rfl, fun c => Nat.zero_le _, hH0, b1, hp, hc, hch⟩
  case round =>
    clear hH0 b1 hp hc hch
    obtain ⟨i, hi, rfl, hle, hH, b1, hp, hc, hch⟩ := hrel
    have HLE := Lib.hid hle
    clear hle
    by_cases hlt : i < m
    · obtain ⟨g, o, rfl, hgl⟩ := hp.form (by rw [HSN.out]; exact Nat.lt_of_le_of_lt (Nat.zero_le _) hlt)
      have hgl0 : g < g0 := by
        obtain ⟨g', o', e, h⟩ := HLOW.out (by rw [HSN.out]; exact Nat.lt_of_le_of_lt (Nat.zero_le _) hlt)
        simp only [Option.some.injEq, Addr.mk.injEq, and_true] at e
        omega
      have hcx := hp.at_ (j := i) (by rw [HSN.out]; exact hlt)
      have HA := Lib.hid (HAT.out i hlt)
      obtain ⟨t, HT⟩ := name_it (S.getD i stk0)
      rw [HT.out] at hcx HA
      obtain ⟨c, HC⟩ := name_it (P.c i)
      have HA1 := Lib.hid HA.out.1
      have hcn := HA.out.2
      rw [HC.out] at hcn HA1
      have hzk := HZ.out
      have HAD := Lib.hid (fun w => nadd_any (hN P (fun _ => true) c i) (Vn P i) (ZP k) w (HSZ.out.h _ _ _ (by rw [HPM.out]; exact hi)) (HSZ.out.v _ (by rw [HPM.out]; exact hlt)) (by omega))
      have HST : Hid (hN P (fun _ => true) c (i + 1) = hN P (fun _ => true) c i + Vn P i) := Lib.hid (hN_at HC.out rfl)
      rw [← HST.out] at HAD
      have HOTH : Hid (∀ t, t ≠ c → hN P (fun _ => true) t (i + 1) = hN P (fun _ => true) t i) := Lib.hid fun t ht => hN_ne HC.out ht
      have HCM := Lib.hid (fun w => ncmp_any (hN P (fun _ => true) c (i + 1)) (Un P c) (ZP k) w (HSZ.out.h _ _ _ (by rw [HPM.out]; exact hlt)) (HSZ.out.u c P.m (Nat.le_refl _)) (by omega))
      have HON : Hid (decide (0 < ord (hN P (fun _ => true) c (i + 1)) (Un P c)) = decide (Un P c < hN P (fun _ => true) c (i + 1))) := Lib.hid (ord_pos _ _)
      obtain ⟨O, HO⟩ := name_it (ord (hN P (fun _ => true) c (i + 1)) (Un P c))
      rw [HO.out] at HCM HON
      have hcu : C1 wr gu c (.string (nb (Un P c))) := ⟨hc.u.cell c hcn, hc.u.lt⟩
      have hcv : C1 wr gv i (.string (nb (Vn P i))) := ⟨hc.v.cell i hlt, hc.v.lt⟩
      have hch1 : C1 wr (g0 + 1) c (.string (nb (hN P (fun _ => true) c i))) := ⟨hH.cell c hcn, hH.lt⟩
      obtain ⟨X, HX⟩ := name_it (nb (hN P (fun _ => true) c i))
      obtain ⟨Y, HY⟩ := name_it (nb (hN P (fun _ => true) c (i + 1)))
      obtain ⟨V, HV⟩ := name_it (nb (Vn P i))
      obtain ⟨U, HU⟩ := name_it (nb (Un P c))
      rw [HX.out, HV.out, HY.out] at HAD
      rw [HY.out, HU.out] at HCM
      rw [HX.out] at hch1
      rw [HU.out] at hcu
      rw [HV.out] at hcv
      obtain ⟨a0, a1, a2, a3, a4, -⟩ := hcx
      rw [HA1.out] at a1
      have c4 : Chg [] wr (wr.alloc (.cells #[.int .i64 t.ow, .int .i64 (c : Int), .bool t.vt.neg, .string t.vt.num, .string t.vt.den] 36)) := (Chg.refl _ _).alloc _
      have b5 := BlkStk.alloc wr (.int .i64 t.ow) (.int .i64 (c : Int)) (.bool t.vt.neg) (.string t.vt.num) (.string t.vt.den) 36
      replace b1 := b1.keep0 c4
      replace hH := hH.keep0 c4
      replace hp := hp.keep0 c4
      replace hc := hc.keep0 c4
      replace hcu := hcu.keep0 c4
      replace hcv := hcv.keep0 c4
      replace hch1 := hch1.keep0 c4
      replace hch := hch.then c4
      clear c4
      have b5c1 := b5.c1
      go_wp2_with fail
      obtain ⟨w5, HW5⟩ := name_it (wr.alloc (.cells #[.int .i64 t.ow, .int .i64 (c : Int), .bool t.vt.neg, .string t.vt.num, .string t.vt.den] 36))
      rw [HW5.out] at b1 hH hp hc hcu hcv hch1 hch ⊢
      have c8 : Chg [] w5 w5.drew := (Chg.refl _ _).drew
      replace b1 := b1.keep0 c8
      replace hH := hH.keep0 c8
      replace hp := hp.keep0 c8
      replace hc := hc.keep0 c8
      replace hcu := hcu.keep0 c8
      replace hcv := hcv.keep0 c8
      replace hch1 := hch1.keep0 c8
      have hcz := hch.then c8
      clear c8 a0 a1 a2 a3 a4 hch HW5 HA HA1 b5 b5c1
      have i1 : (0 : Int) ≤ (c : Int) := by omega
      have i2 : (c : Int) < (n : Int) := by omega
      have j1 : (0 : Int) ≤ (i : Int) := by omega
      have j2 : (i : Int) < (m : Int) := by omega
      refine wp_region_held_drew (S := (fun w' => w'.cell? ⟨g0, 1, none⟩ = some (.slice (some ⟨gv, 0, none⟩) m m) ∧ w'.cell? ⟨gv, i, none⟩ = some (.string V))) (by kernel_rfl) ?_ (fun hHeld => ?_)
      · exact ⟨b1.c1, hcv.c0⟩
      obtain ⟨wz, HWz⟩ := name_it w5.drew
      rw [HWz.out] at b1 hH hp hc hcu hcv hch1 hcz hHeld ⊢
      refine wpAnyH_take (i := 0) (v := ?_) rfl (by kernel_rfl) (by kernel_rfl) (by kernel_rfl) (fun _ _ _ h => h) (Or.inl ⟨by rfl, ?_⟩) (by assumption) ?_
      rotate_left 1
      · intro w hSw
        try dsimp only at hSw
        go_simp
        try with_reducible rfl
      try simp only [List.getElem_toArray, List.getElem_cons_succ, List.getElem_cons_zero]
      try simp only [Act.put, List.setIfInBounds_toArray, List.set_cons_zero, List.set_cons_succ]
      refine wpAnyH_take (i := 1) (v := ?_) rfl (by kernel_rfl) (by kernel_rfl) (by kernel_rfl) (fun _ _ _ h => h) (Or.inl ⟨by rfl, ?_⟩) (by assumption) ?_
      rotate_left 1
      · intro w hSw
        try dsimp only at hSw
        go_simp
        try with_reducible rfl
      try simp only [List.getElem_toArray, List.getElem_cons_succ, List.getElem_cons_zero]
      try simp only [Act.put, List.setIfInBounds_toArray, List.set_cons_zero, List.set_cons_succ]
      refine wpAnyH_take (i := 2) (v := ?_) rfl (by kernel_rfl) (by kernel_rfl) (by kernel_rfl) (fun _ _ _ h => h) (Or.inl ⟨by rfl, ?_⟩) (by assumption) ?_
      rotate_left 1
      · intro w hSw
        try dsimp only at hSw
        go_simp
        try with_reducible rfl
      try simp only [List.getElem_toArray, List.getElem_cons_succ, List.getElem_cons_zero]
      try simp only [Act.put, List.setIfInBounds_toArray, List.set_cons_zero, List.set_cons_succ]
      refine wpAnyH_take (i := 3) (v := ?_) rfl (by kernel_rfl) (by kernel_rfl) (by kernel_rfl) (fun _ _ _ h => h) (Or.inl ⟨by rfl, ?_⟩) (by assumption) ?_
      rotate_left 1
      · intro w hSw
        try dsimp only at hSw
        go_simp
        try with_reducible rfl
      try simp only [List.getElem_toArray, List.getElem_cons_succ, List.getElem_cons_zero]
      try simp only [Act.put, List.setIfInBounds_toArray, List.set_cons_zero, List.set_cons_succ]
      refine wpAnyH_take (i := 6) (v := ?_) rfl (by kernel_rfl) (by kernel_rfl) (by kernel_rfl) (fun _ _ _ h => h) (Or.inl ⟨by rfl, ?_⟩) (by assumption) ?_
      rotate_left 1
      · intro w hSw
        try dsimp only at hSw
        go_simp
        try with_reducible rfl
      try simp only [List.getElem_toArray, List.getElem_cons_succ, List.getElem_cons_zero]
      try simp only [Act.put, List.setIfInBounds_toArray, List.set_cons_zero, List.set_cons_succ]
      refine wpAnyH_take (i := 8) (v := ?_) rfl (by kernel_rfl) (by kernel_rfl) (by kernel_rfl) (fun _ _ _ h => h) (Or.inl ⟨by rfl, ?_⟩) (by assumption) ?_
      rotate_left 1
      · intro w hSw
        try dsimp only at hSw
        go_simp
        try with_reducible rfl
      try simp only [List.getElem_toArray, List.getElem_cons_succ, List.getElem_cons_zero]
      try simp only [Act.put, List.setIfInBounds_toArray, List.set_cons_zero, List.set_cons_succ]
      refine wpAnyH_take (i := 4) (v := ?_) rfl (by kernel_rfl) (by kernel_rfl) (by kernel_rfl) (fun _ _ _ h => h) (Or.inl ⟨by rfl, ?_⟩) (by assumption) ?_
      rotate_left 1
      · intro w hSw
        try dsimp only at hSw
        go_simp
        try with_reducible rfl
      try simp only [List.getElem_toArray, List.getElem_cons_succ, List.getElem_cons_zero]
      try simp only [Act.put, List.setIfInBounds_toArray, List.set_cons_zero, List.set_cons_succ]
      refine wpAnyH_take (i := 7) (v := ?_) rfl (by kernel_rfl) (by kernel_rfl) (by kernel_rfl) (fun _ _ _ h => h) (Or.inl ⟨by rfl, ?_⟩) (by assumption) ?_
      rotate_left 1
      · intro w hSw
        try dsimp only at hSw
        go_simp
        try with_reducible rfl
      try simp only [List.getElem_toArray, List.getElem_cons_succ, List.getElem_cons_zero]
      try simp only [Act.put, List.setIfInBounds_toArray, List.set_cons_zero, List.set_cons_succ]
      refine wpAnyH_take (i := 9) (v := ?_) rfl (by kernel_rfl) (by kernel_rfl) (by kernel_rfl) (fun _ _ _ h => h) (Or.inl ⟨by rfl, ?_⟩) (by assumption) ?_
      rotate_left 1
      · intro w hSw
        try dsimp only at hSw
        go_simp
        try with_reducible rfl
      try simp only [List.getElem_toArray, List.getElem_cons_succ, List.getElem_cons_zero]
      try simp only [Act.put, List.setIfInBounds_toArray, List.set_cons_zero, List.set_cons_succ]
      refine wpAnyH_take (i := 10) (v := ?_) rfl (by kernel_rfl) (by kernel_rfl) (by kernel_rfl) (fun _ _ _ h => h) (Or.inl ⟨by rfl, ?_⟩) (by assumption) ?_
      rotate_left 1
      · intro w hSw
        try dsimp only at hSw
        go_simp
        try with_reducible rfl
      try simp only [List.getElem_toArray, List.getElem_cons_succ, List.getElem_cons_zero]
      try simp only [Act.put, List.setIfInBounds_toArray, List.set_cons_zero, List.set_cons_succ]
      refine wpAnyH_ready (rs := [5]) (by kernel_rfl) (by simp) ?_
      refine AllReadyH.cons (o := _) rfl (fun K' hK => ?_) AllReadyH.nil
      have hcu0 := hch1.c0
      go_simp
      refine hK.out _ _ ?_ (fun hHeld => ?_)
      · exact ⟨b1.c1, hcv.c0⟩
      clear hK K'
      try simp only [Act.put, List.setIfInBounds_toArray, List.set_cons_zero, List.set_cons_succ]
      clear hcu0
      refine wpAnyH_ready (rs := [11]) (by kernel_rfl) (by simp) ?_
      refine AllReadyH.cons (o := _) rfl (fun K' hK => ?_) AllReadyH.nil
      go_simp
      refine (HAD.out _).mono ?_
      rintro e9 wk1 ⟨rfl, c6⟩
      replace b1 := b1.keep0 c6
      replace hH := hH.keep0 c6
      replace hp := hp.keep0 c6
      replace hc := hc.keep0 c6
      replace hcu := hcu.keep0 c6
      replace hcv := hcv.keep0 c6
      replace hch1 := hch1.keep0 c6
      replace hcz := hcz.then c6
      clear c6
      go_wp2_with fail
      refine hK.out _ _ ?_ (fun hHeld => ?_)
      · exact ⟨b1.c1, hcv.c0⟩
      clear hK K'
      try simp only [Act.put, List.setIfInBounds_toArray, List.set_cons_zero, List.set_cons_succ]
      refine wpAnyH_take (i := 12) (v := ?_) rfl (by kernel_rfl) (by kernel_rfl) (by kernel_rfl) (fun _ _ _ h => h) (Or.inl ⟨by rfl, ?_⟩) (by assumption) ?_
      rotate_left 1
      · intro w hSw
        try dsimp only at hSw
        go_simp
        try with_reducible rfl
      try simp only [List.getElem_toArray, List.getElem_cons_succ, List.getElem_cons_zero]
      try simp only [Act.put, List.setIfInBounds_toArray, List.set_cons_zero, List.set_cons_succ]
      refine wpAnyH_ready (rs := [13]) (by kernel_rfl) (by simp) ?_
      refine AllReadyH.cons (o := _) rfl (fun K' hK => ?_) AllReadyH.nil
      have hcu0 := hH.cell c hcn
      have hcf := hH.frz c hcn
      have n1 : g0 ≠ g0 + 1 := by omega
      have nv : gv ≠ g0 + 1 := by omega
      go_simp
      refine hK.out _ _ ?_ (fun hHeld => ?_)
      · exact ⟨(b1.sto1 n1 c (.string Y)).c1, (hcv.keep ((Chg.refl [g0 + 1] _).setCell (p := ⟨g0 + 1, c, none⟩) (.inl (by simp)) (.string Y)) (by simpa using nv)).c0⟩
      clear hK K'
      try simp only [Act.put, List.setIfInBounds_toArray, List.set_cons_zero, List.set_cons_succ]
      refine wpAnyH_done (by kernel_rfl) ?_ _
      have hHS := hH.store hcn (.string Y) (fun t => .string (nb (hN P (fun _ => true) t (i + 1)))) (by rw [HY.out]) (fun t _ e => by rw [HOTH.out t e])
      have b1S := b1.sto1 n1 c (.string Y)
      have hcn1 : Chg [g0 + 1] _ _ := (Chg.refl [g0 + 1] wk1).setCell (p := ⟨g0 + 1, c, none⟩) (.inl (by simp)) (.string Y)
      have hpS := hp.keepL HLOW.out hcn1 (by intro x hx; simp at hx; omega)
      have hcS : Cnt _ _ P gv gu := ⟨hc.v.keep hcn1 (by simpa using nv), hc.u.keep hcn1 (by simp; omega)⟩
      have hcuS := hcu.keep hcn1 (by simp; omega)
      have hchS := hcz.setCell (p := ⟨g0 + 1, c, none⟩) (.inr (show w.heap.size ≤ g0 + 1 by omega)) (.string Y)
      clear hH b1 hp hc hcu hcv hch1 hcz hcu0 hcf hcn1
      go_wp2_with fail
      obtain ⟨w6, HW6⟩ := name_it (wk1.setCell ⟨g0 + 1, c, none⟩ (.string Y))
      rw [HW6.out] at hHS b1S hpS hcS hcuS hchS ⊢
      have e0 : w6.cell? ⟨g0 + 1, c, none⟩ = some (.string Y) := by rw [← HY.out]; exact hHS.cell c hcn
      have e1 := b1S.c2
      have e2 := hcuS.c0
      clear HW6
      by_cases hgt : Un P c < hN P (fun _ => true) c (i + 1)
      · have d1 : decide (0 < O) = true := by rw [HON.out]; exact decide_eq_true hgt
        obtain rfl : r = true := HOT.out i c (by rw [HPM.out]; exact hlt) (by rw [HPN.out]; exact hcn) hgt
        clear hgt
        go_quiet ((go_at_call 62; exact Calls.quiet_of_same ((HCM.out _).mono fun _ _ h => ⟨h.1, h.2.symm⟩)))
        clear e0 e1 e2
        go_wp2_with fail
        go_ret
        exact ⟨rfl, hchS.drewN _⟩
      · have d1 : decide (0 < O) = false := by rw [HON.out]; exact decide_eq_false hgt
        have HLE2 : Hid (∀ t, hN P (fun _ => true) t (i + 1) ≤ Un P t) := Lib.hid fun t => by
          by_cases e : t = c
          · rw [e]; omega
          · rw [HOTH.out t e]; exact HLE.out t
        clear hgt
        go_quiet ((go_at_call 62; exact Calls.quiet_of_same ((HCM.out _).mono fun _ _ h => ⟨h.1, h.2.symm⟩)))
        clear e0 e1 e2
        go_wp2_with fail
        go_roundw
        case rel => exact ⟨i + 1, by omega, by go_num, HLE2.out, hHS.keep0 ((Chg.refl [] _).drewN _), b1S.keep0 ((Chg.refl [] _).drewN _), hpS.keep0 ((Chg.refl [] _).drewN _), hcS.keep0 ((Chg.refl [] _).drewN _), hchS.drewN _⟩
        case measure => simp [intOf]; omega
    · obtain rfl : i = m := by omega
      have hr : r = false := HOF.out (by rw [HPM.out]; exact HLE.out)
      subst hr
      go_wp2_with fail
      go_ret
      exact ⟨rfl, hch⟩
end Go.Proofs.Ytgdpcpbmjgaliaa
