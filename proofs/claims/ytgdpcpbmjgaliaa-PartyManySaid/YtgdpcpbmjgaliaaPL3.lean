/-
  Party: the law PartyMany.
-/
import Derived.Test.YtgdpcpbmjgaliaaPL1
namespace Go.Proofs.Ytgdpcpbmjgaliaa
open Go.RowKit Nd

/-- 1/70. -/
def q70 : Q3 := ⟨false, ⟨#[1]⟩, ⟨#[70]⟩⟩
theorem Val_q70 : Val q70 (1 / 70) 8 := by
  have h1 : (1 / 70 : Rat).num = 1 := by decide +kernel
  have h2 : (1 / 70 : Rat).den = 70 := by decide +kernel
  refine ⟨⟨?_, ?_, ?_⟩, ?_, ?_⟩
  · rw [h1]; rfl
  · rw [h1]; exact Is_one.2 rfl
  · rw [h2]; exact ⟨rfl, by simp [nolead, q70]⟩
  · rw [h1]; decide
  · rw [h2]; decide
def mK (n : Nat) : List Zn := List.replicate n ⟨2⟩
def mS (n : Nat) : List Stk := List.replicate n ⟨0, 1, q70⟩
def mT (n : Nat) : List Ti := List.replicate n ⟨0, 1⟩
theorem mK_len (n : Nat) : (mK n).length = n := by simp [mK]
theorem mS_len (n : Nat) : (mS n).length = n := by simp [mS]
theorem mT_len (n : Nat) : (mT n).length = n := by simp [mT]
theorem mK_succ (n : Nat) : mK (n + 1) = mK n ++ [⟨2⟩] := by unfold mK; exact List.replicate_succ'
theorem mS_succ (n : Nat) : mS (n + 1) = mS n ++ [⟨0, 1, q70⟩] := by unfold mS; exact List.replicate_succ'
theorem mT_succ (n : Nat) : mT (n + 1) = mT n ++ [⟨0, 1⟩] := by unfold mT; exact List.replicate_succ'
theorem mK_get {n i : Nat} (h : i < n) : (mK n).getD i zn0 = ⟨2⟩ := by unfold mK; rw [List.getD_eq_getElem?_getD, List.getElem?_replicate, if_pos h]; rfl
theorem mS_get {n i : Nat} (h : i < n) : (mS n).getD i stk0 = ⟨0, 1, q70⟩ := by unfold mS; rw [List.getD_eq_getElem?_getD, List.getElem?_replicate, if_pos h]; rfl
theorem mS_fit (n : Nat) : FitS (mS n) 8 := ⟨by omega, by omega, fun s hs => by
  rw [(List.mem_replicate.1 hs).2]; exact Val_q70.num.fit⟩
theorem m_two {n : Nat} (h : 2 ≤ n) : twoB n 0 1 = true := twoB_iff.2 ⟨by unfold inB; simp; omega, by unfold inB; simp; omega, by decide⟩
theorem m_hQ (n m k : Nat) : ∀ {i : Nat}, i ≤ m → hQ (pdOf (mK n) (mS m)) (fun _ => true) k i ≤ (i : Rat) / 70
  | 0, _ => by simp only [hQ]; decide +kernel
  | i + 1, hi => by
    have h1 := m_hQ n m k (i := i) (by omega)
    have h2 : (pdOf (mK n) (mS m)).q i = 1 / 70 := by
      show ratOf ((mS m).getD i stk0).vt = _
      rw [mS_get (by omega)]; exact Val_q70.enc.rat
    have h3 : ((i + 1 : Nat) : Rat) = (i : Rat) + 1 := by rw [Rat.natCast_add]; rfl
    simp only [hQ]
    rw [h2, h3]
    split <;> grind
theorem m_ck {n m t : Nat} (hn : 2 ≤ n) : ckP (mK n) (mS m) (mT t) = if 32 < n ∨ 64 < m ∨ 64 < t then 2 else 0 := by
  by_cases h : 32 < n ∨ 64 < m ∨ 64 < t
  · rw [if_pos h]; exact ck_long (by rw [mK_len, mS_len, mT_len]; exact h)
  · rw [if_neg h]
    have h2 : kE (mK n) = false := by
      unfold kE
      rw [List.any_eq_false]
      intro x hx
      rw [(List.mem_replicate.1 hx).2]; decide
    have h3 : fE (sE (mK n) (mS m)) (mS m).length = 0 := fE_none fun i hi => by
      rw [mS_len] at hi
      unfold sE
      rw [mS_get hi]
      unfold stE
      rw [if_neg (by
        rw [mK_len, m_two hn]
        show ¬ (true = false ∨ ((mK n).getD 1 zn0).x ≠ 2)
        rw [mK_get (by omega)]; simp), if_neg (by show ¬ sg (ratOf q70) ≤ 0; rw [Val_q70.enc.rat]; decide +kernel)]
    have h4 : ovr (pdOf (mK n) (mS m)) = false := by
      cases ho : ovr (pdOf (mK n) (mS m))
      · rfl
      · obtain ⟨k, _, hk⟩ := ovr_iff.1 ho
        have hm : (pdOf (mK n) (mS m)).m = m := mS_len m
        rw [hm] at hk
        have h5 := m_hQ n m k (Nat.le_refl m)
        have h6 : (m : Rat) ≤ ((64 : Nat) : Rat) := Rat.natCast_le_natCast.2 (by omega)
        have h7 : ((64 : Nat) : Rat) = 64 := rfl
        grind
    rw [ck_tie (by rw [mK_len, mS_len, mT_len]; exact h) h2 h3 h4]
    have h5 : tE (mK n).length (mT t) = false := by
      unfold tE
      rw [List.any_eq_false]
      intro x hx
      rw [(List.mem_replicate.1 hx).2, mK_len, m_two hn]; decide
    rw [h5]; rfl

theorem Blk3.sto0 {w : World} {g : Nat} {a b c : Value} (h : Blk3 w g a b c) (v : Value) : Blk3 (w.setCell ⟨g, 0, none⟩ v) g v b c := by
  obtain ⟨c0, c1, c2, f0, f1, f2, l⟩ := h
  refine ⟨by simp [go_sem, c0], by simp [go_sem, c1], by simp [go_sem, c2], ?_, ?_, ?_, by simpa using l⟩
  · rw [World.frozen?_setCell]; exact f0
  · rw [World.frozen?_setCell]; exact f1
  · rw [World.frozen?_setCell]; exact f2
theorem Blk3.sto1c {w : World} {g : Nat} {a b c : Value} (h : Blk3 w g a b c) (v : Value) : Blk3 (w.setCell ⟨g, 1, none⟩ v) g a v c := by
  obtain ⟨c0, c1, c2, f0, f1, f2, l⟩ := h
  refine ⟨by simp [go_sem, c0], by simp [go_sem, c1], by simp [go_sem, c2], ?_, ?_, ?_, by simpa using l⟩
  · rw [World.frozen?_setCell]; exact f0
  · rw [World.frozen?_setCell]; exact f1
  · rw [World.frozen?_setCell]; exact f2
theorem Blk3.sto2 {w : World} {g : Nat} {a b c : Value} (h : Blk3 w g a b c) (v : Value) : Blk3 (w.setCell ⟨g, 2, none⟩ v) g a b v := by
  obtain ⟨c0, c1, c2, f0, f1, f2, l⟩ := h
  refine ⟨by simp [go_sem, c0], by simp [go_sem, c1], by simp [go_sem, c2], ?_, ?_, ?_, by simpa using l⟩
  · rw [World.frozen?_setCell]; exact f0
  · rw [World.frozen?_setCell]; exact f1
  · rw [World.frozen?_setCell]; exact f2

set_option maxRecDepth 20000 in
set_option linter.unusedSimpArgs false in
set_option maxHeartbeats 8000000 in
theorem lpmany_any (n s t : Int) (w : World) (hn : 0 ≤ n ∧ n ≤ 255) (hs : 0 ≤ s ∧ s ≤ 255) (ht : 0 ≤ t ∧ t ≤ 255) :
    Calls Try.prog 4 #[.int .u8 n, .int .u8 s, .int .u8 t] w fun e w' => e = .returned (.bool true) ∧ Chg [] w w' := by
  obtain ⟨n1, n2⟩ := hn
  obtain ⟨s1, s2⟩ := hs
  obtain ⟨t1, t2⟩ := ht
  obtain ⟨N, HN⟩ : ∃ N : Nat, Hid (n % 40 = (N : Int)) := ⟨(n % 40).toNat, Lib.hid (by omega)⟩
  obtain ⟨M, HM⟩ : ∃ M : Nat, Hid (s % 70 = (M : Int)) := ⟨(s % 70).toNat, Lib.hid (by omega)⟩
  obtain ⟨L, HLL⟩ : ∃ L : Nat, Hid (t % 70 = (L : Int)) := ⟨(t % 70).toNat, Lib.hid (by omega)⟩
  obtain ⟨NN, HQ⟩ : ∃ NN : Nat, Hid (NN = N + 2) := ⟨N + 2, Lib.hid rfl⟩
  have Q1 : NN < 42 := by have := HQ.out; have := HN.out; omega
  have Q2 : 2 ≤ NN := by have := HQ.out; omega
  have N1 : N < 40 := by have := HN.out; omega
  have M1 : M < 70 := by have := HM.out; omega
  have L1 : L < 70 := by have := HLL.out; omega
  have f1 : n % 40 = (N : Int) := HN.out
  have f2 : n.tmod 40 = (N : Int) := by rw [Int.tmod_eq_emod_of_nonneg n1]; exact HN.out
  have f3 : s % 70 = (M : Int) := HM.out
  have f4 : s.tmod 70 = (M : Int) := by rw [Int.tmod_eq_emod_of_nonneg s1]; exact HM.out
  have f5 : t % 70 = (L : Int) := HLL.out
  have f6 : t.tmod 70 = (L : Int) := by rw [Int.tmod_eq_emod_of_nonneg t1]; exact HLL.out
  have HRT : Hid (∀ w, Calls Try.prog 16 #[.int .i64 1, .int .i64 70] w fun e w' => e = .returned (.agg #[.bool q70.neg, .string q70.num, .string q70.den]) ∧ Chg [] w w') := Lib.hid fun w => by
    have q1 : sq (fsg 1 70) (1 : Int).natAbs (70 : Int).natAbs = 1 / 70 := by decide +kernel
    have h := ratio_any 1 70 w (by omega) (by omega) (by omega) (by omega)
    rw [q1] at h
    refine h.mono ?_
    rintro e w1 ⟨z, rfl, hz, c1⟩
    obtain rfl := hz.unique Val_q70
    exact ⟨rfl, c1⟩
  have HCK := Lib.hid (fun p w h1 h2 => check_any p 8 w h1 h2)
  have b7 := Blk3.alloc w (.slice none 0 0) (.slice none 0 0) (.slice none 0 0) 26
  have hch : Chg [] w (w.alloc (.cells #[.slice none 0 0, .slice none 0 0, .slice none 0 0] 26)) := (Chg.refl _ _).alloc _
  go_enter Try.func4, Try.ntmps4
  go_wp2_with fail
  obtain ⟨g0, HG0⟩ := name_it w.heap.size
  rw [HG0.out] at b7 ⊢
  have hg0 : w.heap.size ≤ g0 := Nat.le_of_eq HG0.out
  go_loopw [8] (fun iv wr => ∃ (i : Nat) (kv : Value), i ≤ NN ∧ iv = .int .i64 i ∧ OwnZn wr kv (mK i) ∧ (∀ x ∈ kv.ownBlock.toList, g0 < x) ∧ Blk3 wr g0 kv (.slice none 0 0) (.slice none 0 0) ∧ Chg [] w wr) (fun iv _ => NN - (intOf iv).toNat)
  case atStart => exact ⟨0, .slice none 0 0, Nat.zero_le _, rfl, (by exact OwnZn.nil _), (by simp [Value.ownBlock]), b7, hch⟩
  case round =>
    clear b7 hch
    obtain ⟨i, kv, hi, rfl, hown, hblk, b7, hch⟩ := hrel
    have HOWN := Lib.hid hown
    have HBK := Lib.hid hblk
    clear hown hblk
    by_cases hlt : i < NN
    · have b7c0 := b7.c0
      have b7f0 := b7.f0
      have d1 : decide ((i : Int) < 2 + (N : Int)) = true := decide_eq_true (by have := HQ.out; omega)
      have c4 : Chg [] wr (wr.alloc (.cells #[.int .i64 2] 3)) := (Chg.refl _ _).alloc _
      have hO := HOWN.out.keep0 c4
      have hbl := b7.lt
      have b7a := b7.keep0 c4
      have b7ac0 := b7a.c0
      have b7af0 := b7a.f0
      go_wp2_with (at_builtin; refine wpList_appendZn _ rfl (.tmp 22) (.tmp 23) rfl kv (mK i) rfl hO _ 1 ⟨2⟩ rfl (sZn_new _ ⟨2⟩) (by rw [mK_len]; omega) ?_)
      intro v5 w5 own5 cv5 hv5
      obtain ⟨A5, l5, cp5, rfl⟩ : ∃ A l c, v5 = .slice A l c := by obtain ⟨A, c, h, _⟩ := own5.rds; exact ⟨A, _, c, h⟩
      have b75 := b7a.keep cv5 (fun hm => by have := HBK.out _ hm; omega)
      have b75c0 := b75.c0
      have b75f0 := b75.f0
      clear b7ac0 b7af0 b7c0 b7f0
      have hch5 : Chg [] w w5 := (hch.then c4).trans cv5 (fun x hx => .inr (by have := HBK.out x hx; omega))
      have HB5 : Hid (∀ x ∈ (Value.slice A5 l5 cp5).ownBlock.toList, g0 < x) := Lib.hid fun x hx => by
        rcases hv5 with h5 | h5
        · rw [h5] at hx; exact HBK.out x hx
        · rw [h5] at hx; simp at hx; omega
      rw [← mK_succ] at own5
      have b7S := b75.sto0 (.slice A5 l5 cp5)
      have hcn : Chg [g0] w5 (w5.setCell ⟨g0, 0, none⟩ (.slice A5 l5 cp5)) := (Chg.refl [g0] _).setCell (p := ⟨g0, 0, none⟩) (.inl (by simp)) _
      have HO5 := Lib.hid (own5.keep hcn (fun k hk hm => by simp at hm; have := HB5.out k (by rw [hk]; simp); omega))
      have hchS := hch5.setCell (p := ⟨g0, 0, none⟩) (.inr (show w.heap.size ≤ g0 by omega)) (.slice A5 l5 cp5)
      clear own5 cv5 hv5 hch5 hcn b75 b7a hO c4 hch b7
      go_wp2_with fail
      go_roundw
      case rel => exact ⟨i + 1, _, by omega, by go_num, HO5.out, HB5.out, b7S, hchS⟩
      case measure => simp [intOf]; omega
    · obtain rfl : NN = i := by omega
      have d1 : decide ((NN : Int) < 2 + (N : Int)) = false := decide_eq_false (by have := HQ.out; omega)
      obtain ⟨A0, cp0, hkv, -, -, -⟩ := HOWN.out.rds
      rw [mK_len] at hkv
      subst hkv
      have hKv := HOWN.out
      have hg1 : g0 < wr.heap.size := b7.lt
      have hkl : ∀ x ∈ (Value.slice A0 NN cp0).ownBlock.toList, x < wr.heap.size := fun x hx => by
        have := (World.ownsRow.lt hKv x (by simpa using hx)).2
        exact this
      obtain ⟨B1, HB1⟩ := name_it wr.heap.size
      have hB1 : B1 ≤ wr.heap.size := Nat.le_of_eq HB1.out.symm
      rw [HB1.out] at hg1 hkl
      have HKL := Lib.hid hkl
      have HK0 := Lib.hid HBK.out
      clear hkl HBK HOWN
      have dd : decide ((NN : Int) < 2 + (N : Int)) = false := decide_eq_false (by have := HQ.out; omega)
      go_wp2_with fail
      try rw [dd]
      clear d1 dd
      go_loopw [9] (fun iv wr => ∃ (i : Nat) (sv : Value), i ≤ M ∧ iv = .int .i64 i ∧ OwnStk wr sv (mS i) ∧ (∀ x ∈ sv.ownBlock.toList, B1 ≤ x) ∧ OwnZn wr (.slice A0 NN cp0) (mK NN) ∧ Blk3 wr g0 (.slice A0 NN cp0) sv (.slice none 0 0) ∧ B1 ≤ wr.heap.size ∧ Chg [] w wr) (fun iv _ => M - (intOf iv).toNat)
      case atStart => exact ⟨0, .slice none 0 0, Nat.zero_le _, rfl, (by exact OwnStk.nil _), (by simp [Value.ownBlock]), hKv, b7, hB1, hch⟩
      case round =>
        clear b7 hch hKv hB1
        obtain ⟨i, sv, hi, rfl, hown, hblk, hKv, b7, hB1, hch⟩ := hrel
        have HBS := Lib.hid hblk
        clear hblk
        by_cases hlt : i < M
        · go_wp2_with fail
          have c8 : Chg [] wr wr.drew := (Chg.refl _ _).drew
          replace hown := hown.keep0 c8
          replace hKv := hKv.keep0 c8
          replace b7 := b7.keep0 c8
          have hB2 : B1 ≤ wr.drew.heap.size := hB1
          have hcz := hch.then c8
          clear c8 hch
          refine wp_region_held_drew (S := (fun _ => True)) (by kernel_rfl) ?_ (fun hHeld => ?_)
          · exact trivial
          obtain ⟨wz, HWz⟩ := name_it wr.drew
          rw [HWz.out] at b7 hown hKv hcz hB2 ⊢
          have hcy : Chg [] wz wz := Chg.refl _ _
          refine wpAnyH_take (i := 0) (v := ?_) rfl (by kernel_rfl) (by kernel_rfl) (by kernel_rfl) (fun _ _ _ h => h) (Or.inl ⟨by rfl, ?_⟩) (by assumption) ?_
          rotate_left 1
          · intro w hSw
            try dsimp only at hSw
            go_simp
            try with_reducible rfl
          try simp only [List.getElem_toArray, List.getElem_cons_succ, List.getElem_cons_zero]
          try simp only [Act.put, List.setIfInBounds_toArray, List.set_cons_zero, List.set_cons_succ]
          refine wpAnyH_ready (rs := [1, 2]) (by kernel_rfl) (by simp) ?_
          refine AllReadyH.cons (o := _) rfl (fun K' hK => ?_) ?_
          · have b7c1 := b7.c1
            go_simp
            refine hK.out _ _ ?_ (fun hHeld => ?_)
            · exact trivial
            clear hK K'
            try simp only [Act.put, List.setIfInBounds_toArray, List.set_cons_zero, List.set_cons_succ]
            clear b7c1
            refine wpAnyH_ready (rs := [2]) (by kernel_rfl) (by simp) ?_
            refine AllReadyH.cons (o := _) rfl (fun K' hK => ?_) AllReadyH.nil
            go_simp
            refine (HRT.out _).mono ?_
            rintro e9 wk1 ⟨rfl, c6⟩
            replace b7 := b7.keep0 c6
            replace hown := hown.keep0 c6
            replace hKv := hKv.keep0 c6
            replace hcz := hcz.then c6
            replace hcy := hcy.then c6
            clear c6
            go_wp2_with fail
            refine hK.out _ _ ?_ (fun hHeld => ?_)
            · exact trivial
            clear hK K'
            try simp only [Act.put, List.setIfInBounds_toArray, List.set_cons_zero, List.set_cons_succ]
            refine wpAnyH_take (i := 3) (v := ?_) rfl (by kernel_rfl) (by kernel_rfl) (by kernel_rfl) (fun _ _ _ h => h) (Or.inl ⟨by rfl, ?_⟩) (by assumption) ?_
            rotate_left 1
            · intro w hSw
              try dsimp only at hSw
              go_simp
              try with_reducible rfl
            try simp only [List.getElem_toArray, List.getElem_cons_succ, List.getElem_cons_zero]
            try simp only [Act.put, List.setIfInBounds_toArray, List.set_cons_zero, List.set_cons_succ]
            refine wpAnyH_ready (rs := [4]) (by kernel_rfl) (by simp) ?_
            refine AllReadyH.cons (o := _) rfl (fun K' hK => ?_) AllReadyH.nil
            go_simp
            refine hK.out _ _ ?_ (fun hHeld => ?_)
            · exact trivial
            clear hK K'
            try simp only [Act.put, List.setIfInBounds_toArray, List.set_cons_zero, List.set_cons_succ]
            have hsrc := sStk_new wk1 ⟨0, 1, q70⟩
            have c9 : Chg [] wk1 (wk1.alloc (.cells #[.int .i64 0, .int .i64 1, .bool q70.neg, .string q70.num, .string q70.den] 36)) := (Chg.refl _ _).alloc _
            replace b7 := b7.keep0 c9
            replace hown := hown.keep0 c9
            replace hKv := hKv.keep0 c9
            replace hcz := hcz.then c9
            replace hcy := hcy.then c9
            clear c9
            obtain ⟨wq2, HWwq2⟩ := name_it (wk1.alloc (.cells #[.int .i64 0, .int .i64 1, .bool q70.neg, .string q70.num, .string q70.den] 36))
            obtain ⟨gS, HGgS⟩ := name_it wk1.heap.size
            rw [HWwq2.out] at b7 hown hKv hsrc hcz hcy ⊢
            rw [HGgS.out] at hsrc ⊢
            refine wpAnyH_ready (rs := [5]) (by kernel_rfl) (by simp) ?_
            refine AllReadyH.cons (o := _) rfl (fun K' hK => ?_) AllReadyH.nil
            have hbg := b7.lt
            have hbg := b7.lt
            refine step_appendStk _ (by rfl) _ _ (by rfl) sv (mS i) (by rfl) hown _ 1 ⟨0, 1, q70⟩ (by rfl) hsrc (by rw [mS_len]; omega) ?_
            intro v5 wa3 own5 cv5 hv5
            obtain ⟨A5, l5, cp5, rfl⟩ : ∃ A l c, v5 = .slice A l c := by obtain ⟨A, c, h, _⟩ := own5.rds; exact ⟨A, _, c, h⟩
            replace b7 := b7.keep cv5 (fun hm => by have := HBS.out _ hm; omega)
            replace hKv := hKv.keep cv5 (fun k hk hm => by have := HBS.out _ hm; have := HKL.out k (by rw [hk]; simp); omega)
            replace hcz := hcz.trans cv5 (fun x hx => .inr (by have := HBS.out x hx; omega))
            have HB5 : Hid (∀ x ∈ (Value.slice A5 l5 cp5).ownBlock.toList, B1 ≤ x) := Lib.hid fun x hx => by
              rcases hv5 with h5 | h5
              · rw [h5] at hx; exact HBS.out x hx
              · rw [h5] at hx; simp at hx; have := hcy.size; omega
            have hB5 : B1 ≤ wa3.heap.size := by have := cv5.size; have := hcy.size; omega
            rw [← mS_succ] at own5
            clear cv5 hv5 hsrc hown hcy
            refine hK.out _ _ ?_ (fun hHeld => ?_)
            · exact trivial
            clear hK K'
            try simp only [Act.put, List.setIfInBounds_toArray, List.set_cons_zero, List.set_cons_succ]
            refine wpAnyH_take (i := 6) (v := ?_) rfl (by kernel_rfl) (by kernel_rfl) (by kernel_rfl) (fun _ _ _ h => h) (Or.inl ⟨by rfl, ?_⟩) (by assumption) ?_
            rotate_left 1
            · intro w hSw
              try dsimp only at hSw
              go_simp
              try with_reducible rfl
            try simp only [List.getElem_toArray, List.getElem_cons_succ, List.getElem_cons_zero]
            try simp only [Act.put, List.setIfInBounds_toArray, List.set_cons_zero, List.set_cons_succ]
            refine wpAnyH_ready (rs := [7]) (by kernel_rfl) (by simp) ?_
            refine AllReadyH.cons (o := _) rfl (fun K' hK => ?_) AllReadyH.nil
            have b7c1 := b7.c1
            have b7f1 := b7.f1
            go_simp
            refine hK.out _ _ ?_ (fun hHeld => ?_)
            · exact trivial
            clear hK K'
            try simp only [Act.put, List.setIfInBounds_toArray, List.set_cons_zero, List.set_cons_succ]
            clear b7c1 b7f1
            refine wpAnyH_done (by kernel_rfl) ?_ _
            have b7S := b7.sto1c (.slice A5 l5 cp5)
            have hcn : Chg [g0] wa3 (wa3.setCell ⟨g0, 1, none⟩ (.slice A5 l5 cp5)) := (Chg.refl [g0] _).setCell (p := ⟨g0, 1, none⟩) (.inl (by simp)) _
            have hO5 := own5.keep hcn (fun k hk hm => by simp at hm; have := HB5.out k (by rw [hk]; simp); omega)
            have hKS := hKv.keep hcn (fun k hk hm => by simp at hm; have := HK0.out k (by rw [hk]; simp); omega)
            have hchS := hcz.setCell (p := ⟨g0, 1, none⟩) (.inr (show w.heap.size ≤ g0 by omega)) (.slice A5 l5 cp5)
            have hB6 : B1 ≤ (wa3.setCell ⟨g0, 1, none⟩ (.slice A5 l5 cp5)).heap.size := by rw [World.size_setCell]; exact hB5
            clear own5 hKv b7 hcz hcn hB5
            go_wp2_with fail
            go_roundw
            case rel => exact ⟨i + 1, _, by omega, by go_num, hO5, HB5.out, hKS, b7S, hB6, hchS⟩
            case measure => simp [intOf]; omega
          refine AllReadyH.cons (o := _) rfl (fun K' hK => ?_) AllReadyH.nil
          go_simp
          refine (HRT.out _).mono ?_
          rintro e9 wk4 ⟨rfl, c6⟩
          replace b7 := b7.keep0 c6
          replace hown := hown.keep0 c6
          replace hKv := hKv.keep0 c6
          replace hcz := hcz.then c6
          replace hcy := hcy.then c6
          clear c6
          go_wp2_with fail
          refine hK.out _ _ ?_ (fun hHeld => ?_)
          · exact trivial
          clear hK K'
          try simp only [Act.put, List.setIfInBounds_toArray, List.set_cons_zero, List.set_cons_succ]
          refine wpAnyH_take (i := 3) (v := ?_) rfl (by kernel_rfl) (by kernel_rfl) (by kernel_rfl) (fun _ _ _ h => h) (Or.inl ⟨by rfl, ?_⟩) (by assumption) ?_
          rotate_left 1
          · intro w hSw
            try dsimp only at hSw
            go_simp
            try with_reducible rfl
          try simp only [List.getElem_toArray, List.getElem_cons_succ, List.getElem_cons_zero]
          try simp only [Act.put, List.setIfInBounds_toArray, List.set_cons_zero, List.set_cons_succ]
          refine wpAnyH_ready (rs := [1, 4]) (by kernel_rfl) (by simp) ?_
          refine AllReadyH.cons (o := _) rfl (fun K' hK => ?_) ?_
          · have b7c1 := b7.c1
            go_simp
            refine hK.out _ _ ?_ (fun hHeld => ?_)
            · exact trivial
            clear hK K'
            try simp only [Act.put, List.setIfInBounds_toArray, List.set_cons_zero, List.set_cons_succ]
            clear b7c1
            refine wpAnyH_ready (rs := [4]) (by kernel_rfl) (by simp) ?_
            refine AllReadyH.cons (o := _) rfl (fun K' hK => ?_) AllReadyH.nil
            go_simp
            refine hK.out _ _ ?_ (fun hHeld => ?_)
            · exact trivial
            clear hK K'
            try simp only [Act.put, List.setIfInBounds_toArray, List.set_cons_zero, List.set_cons_succ]
            have hsrc := sStk_new wk4 ⟨0, 1, q70⟩
            have c9 : Chg [] wk4 (wk4.alloc (.cells #[.int .i64 0, .int .i64 1, .bool q70.neg, .string q70.num, .string q70.den] 36)) := (Chg.refl _ _).alloc _
            replace b7 := b7.keep0 c9
            replace hown := hown.keep0 c9
            replace hKv := hKv.keep0 c9
            replace hcz := hcz.then c9
            replace hcy := hcy.then c9
            clear c9
            obtain ⟨wq5, HWwq5⟩ := name_it (wk4.alloc (.cells #[.int .i64 0, .int .i64 1, .bool q70.neg, .string q70.num, .string q70.den] 36))
            obtain ⟨gS, HGgS⟩ := name_it wk4.heap.size
            rw [HWwq5.out] at b7 hown hKv hsrc hcz hcy ⊢
            rw [HGgS.out] at hsrc ⊢
            refine wpAnyH_ready (rs := [5]) (by kernel_rfl) (by simp) ?_
            refine AllReadyH.cons (o := _) rfl (fun K' hK => ?_) AllReadyH.nil
            have hbg := b7.lt
            have hbg := b7.lt
            refine step_appendStk _ (by rfl) _ _ (by rfl) sv (mS i) (by rfl) hown _ 1 ⟨0, 1, q70⟩ (by rfl) hsrc (by rw [mS_len]; omega) ?_
            intro v5 wa6 own5 cv5 hv5
            obtain ⟨A5, l5, cp5, rfl⟩ : ∃ A l c, v5 = .slice A l c := by obtain ⟨A, c, h, _⟩ := own5.rds; exact ⟨A, _, c, h⟩
            replace b7 := b7.keep cv5 (fun hm => by have := HBS.out _ hm; omega)
            replace hKv := hKv.keep cv5 (fun k hk hm => by have := HBS.out _ hm; have := HKL.out k (by rw [hk]; simp); omega)
            replace hcz := hcz.trans cv5 (fun x hx => .inr (by have := HBS.out x hx; omega))
            have HB5 : Hid (∀ x ∈ (Value.slice A5 l5 cp5).ownBlock.toList, B1 ≤ x) := Lib.hid fun x hx => by
              rcases hv5 with h5 | h5
              · rw [h5] at hx; exact HBS.out x hx
              · rw [h5] at hx; simp at hx; have := hcy.size; omega
            have hB5 : B1 ≤ wa6.heap.size := by have := cv5.size; have := hcy.size; omega
            rw [← mS_succ] at own5
            clear cv5 hv5 hsrc hown hcy
            refine hK.out _ _ ?_ (fun hHeld => ?_)
            · exact trivial
            clear hK K'
            try simp only [Act.put, List.setIfInBounds_toArray, List.set_cons_zero, List.set_cons_succ]
            refine wpAnyH_take (i := 6) (v := ?_) rfl (by kernel_rfl) (by kernel_rfl) (by kernel_rfl) (fun _ _ _ h => h) (Or.inl ⟨by rfl, ?_⟩) (by assumption) ?_
            rotate_left 1
            · intro w hSw
              try dsimp only at hSw
              go_simp
              try with_reducible rfl
            try simp only [List.getElem_toArray, List.getElem_cons_succ, List.getElem_cons_zero]
            try simp only [Act.put, List.setIfInBounds_toArray, List.set_cons_zero, List.set_cons_succ]
            refine wpAnyH_ready (rs := [7]) (by kernel_rfl) (by simp) ?_
            refine AllReadyH.cons (o := _) rfl (fun K' hK => ?_) AllReadyH.nil
            have b7c1 := b7.c1
            have b7f1 := b7.f1
            go_simp
            refine hK.out _ _ ?_ (fun hHeld => ?_)
            · exact trivial
            clear hK K'
            try simp only [Act.put, List.setIfInBounds_toArray, List.set_cons_zero, List.set_cons_succ]
            clear b7c1 b7f1
            refine wpAnyH_done (by kernel_rfl) ?_ _
            have b7S := b7.sto1c (.slice A5 l5 cp5)
            have hcn : Chg [g0] wa6 (wa6.setCell ⟨g0, 1, none⟩ (.slice A5 l5 cp5)) := (Chg.refl [g0] _).setCell (p := ⟨g0, 1, none⟩) (.inl (by simp)) _
            have hO5 := own5.keep hcn (fun k hk hm => by simp at hm; have := HB5.out k (by rw [hk]; simp); omega)
            have hKS := hKv.keep hcn (fun k hk hm => by simp at hm; have := HK0.out k (by rw [hk]; simp); omega)
            have hchS := hcz.setCell (p := ⟨g0, 1, none⟩) (.inr (show w.heap.size ≤ g0 by omega)) (.slice A5 l5 cp5)
            have hB6 : B1 ≤ (wa6.setCell ⟨g0, 1, none⟩ (.slice A5 l5 cp5)).heap.size := by rw [World.size_setCell]; exact hB5
            clear own5 hKv b7 hcz hcn hB5
            go_wp2_with fail
            go_roundw
            case rel => exact ⟨i + 1, _, by omega, by go_num, hO5, HB5.out, hKS, b7S, hB6, hchS⟩
            case measure => simp [intOf]; omega
          refine AllReadyH.cons (o := _) rfl (fun K' hK => ?_) AllReadyH.nil
          go_simp
          refine hK.out _ _ ?_ (fun hHeld => ?_)
          · exact trivial
          clear hK K'
          try simp only [Act.put, List.setIfInBounds_toArray, List.set_cons_zero, List.set_cons_succ]
          have hsrc := sStk_new wk4 ⟨0, 1, q70⟩
          have c9 : Chg [] wk4 (wk4.alloc (.cells #[.int .i64 0, .int .i64 1, .bool q70.neg, .string q70.num, .string q70.den] 36)) := (Chg.refl _ _).alloc _
          replace b7 := b7.keep0 c9
          replace hown := hown.keep0 c9
          replace hKv := hKv.keep0 c9
          replace hcz := hcz.then c9
          replace hcy := hcy.then c9
          clear c9
          obtain ⟨wq7, HWwq7⟩ := name_it (wk4.alloc (.cells #[.int .i64 0, .int .i64 1, .bool q70.neg, .string q70.num, .string q70.den] 36))
          obtain ⟨gS, HGgS⟩ := name_it wk4.heap.size
          rw [HWwq7.out] at b7 hown hKv hsrc hcz hcy ⊢
          rw [HGgS.out] at hsrc ⊢
          refine wpAnyH_ready (rs := [1]) (by kernel_rfl) (by simp) ?_
          refine AllReadyH.cons (o := _) rfl (fun K' hK => ?_) AllReadyH.nil
          have b7c1 := b7.c1
          go_simp
          refine hK.out _ _ ?_ (fun hHeld => ?_)
          · exact trivial
          clear hK K'
          try simp only [Act.put, List.setIfInBounds_toArray, List.set_cons_zero, List.set_cons_succ]
          clear b7c1
          refine wpAnyH_ready (rs := [5]) (by kernel_rfl) (by simp) ?_
          refine AllReadyH.cons (o := _) rfl (fun K' hK => ?_) AllReadyH.nil
          have hbg := b7.lt
          have hbg := b7.lt
          refine step_appendStk _ (by rfl) _ _ (by rfl) sv (mS i) (by rfl) hown _ 1 ⟨0, 1, q70⟩ (by rfl) hsrc (by rw [mS_len]; omega) ?_
          intro v5 wa8 own5 cv5 hv5
          obtain ⟨A5, l5, cp5, rfl⟩ : ∃ A l c, v5 = .slice A l c := by obtain ⟨A, c, h, _⟩ := own5.rds; exact ⟨A, _, c, h⟩
          replace b7 := b7.keep cv5 (fun hm => by have := HBS.out _ hm; omega)
          replace hKv := hKv.keep cv5 (fun k hk hm => by have := HBS.out _ hm; have := HKL.out k (by rw [hk]; simp); omega)
          replace hcz := hcz.trans cv5 (fun x hx => .inr (by have := HBS.out x hx; omega))
          have HB5 : Hid (∀ x ∈ (Value.slice A5 l5 cp5).ownBlock.toList, B1 ≤ x) := Lib.hid fun x hx => by
            rcases hv5 with h5 | h5
            · rw [h5] at hx; exact HBS.out x hx
            · rw [h5] at hx; simp at hx; have := hcy.size; omega
          have hB5 : B1 ≤ wa8.heap.size := by have := cv5.size; have := hcy.size; omega
          rw [← mS_succ] at own5
          clear cv5 hv5 hsrc hown hcy
          refine hK.out _ _ ?_ (fun hHeld => ?_)
          · exact trivial
          clear hK K'
          try simp only [Act.put, List.setIfInBounds_toArray, List.set_cons_zero, List.set_cons_succ]
          refine wpAnyH_take (i := 6) (v := ?_) rfl (by kernel_rfl) (by kernel_rfl) (by kernel_rfl) (fun _ _ _ h => h) (Or.inl ⟨by rfl, ?_⟩) (by assumption) ?_
          rotate_left 1
          · intro w hSw
            try dsimp only at hSw
            go_simp
            try with_reducible rfl
          try simp only [List.getElem_toArray, List.getElem_cons_succ, List.getElem_cons_zero]
          try simp only [Act.put, List.setIfInBounds_toArray, List.set_cons_zero, List.set_cons_succ]
          refine wpAnyH_ready (rs := [7]) (by kernel_rfl) (by simp) ?_
          refine AllReadyH.cons (o := _) rfl (fun K' hK => ?_) AllReadyH.nil
          have b7c1 := b7.c1
          have b7f1 := b7.f1
          go_simp
          refine hK.out _ _ ?_ (fun hHeld => ?_)
          · exact trivial
          clear hK K'
          try simp only [Act.put, List.setIfInBounds_toArray, List.set_cons_zero, List.set_cons_succ]
          clear b7c1 b7f1
          refine wpAnyH_done (by kernel_rfl) ?_ _
          have b7S := b7.sto1c (.slice A5 l5 cp5)
          have hcn : Chg [g0] wa8 (wa8.setCell ⟨g0, 1, none⟩ (.slice A5 l5 cp5)) := (Chg.refl [g0] _).setCell (p := ⟨g0, 1, none⟩) (.inl (by simp)) _
          have hO5 := own5.keep hcn (fun k hk hm => by simp at hm; have := HB5.out k (by rw [hk]; simp); omega)
          have hKS := hKv.keep hcn (fun k hk hm => by simp at hm; have := HK0.out k (by rw [hk]; simp); omega)
          have hchS := hcz.setCell (p := ⟨g0, 1, none⟩) (.inr (show w.heap.size ≤ g0 by omega)) (.slice A5 l5 cp5)
          have hB6 : B1 ≤ (wa8.setCell ⟨g0, 1, none⟩ (.slice A5 l5 cp5)).heap.size := by rw [World.size_setCell]; exact hB5
          clear own5 hKv b7 hcz hcn hB5
          go_wp2_with fail
          go_roundw
          case rel => exact ⟨i + 1, _, by omega, by go_num, hO5, HB5.out, hKS, b7S, hB6, hchS⟩
          case measure => simp [intOf]; omega
        · obtain rfl : i = M := by omega
          obtain ⟨A1, cp1, hsv, -, -, -⟩ := hown.rds
          rw [mS_len] at hsv
          subst hsv
          have hSv := hown
          have hsl : ∀ x ∈ (Value.slice A1 i cp1).ownBlock.toList, x < wr.heap.size := fun x hx => by
            have := (World.ownsRow.lt hSv x (by simpa using hx)).2
            exact this
          have hg2 : g0 < wr.heap.size := b7.lt
          have hkb : B1 ≤ wr.heap.size := hB1
          obtain ⟨B2, HB2⟩ := name_it wr.heap.size
          have hB2 : B2 ≤ wr.heap.size := Nat.le_of_eq HB2.out.symm
          rw [HB2.out] at hsl hg2 hkb
          have HSL := Lib.hid hsl
          clear hsl hown
          go_wp2_with fail
          go_loopw [10] (fun iv wr => ∃ (j : Nat) (tv : Value), j ≤ L ∧ iv = .int .i64 j ∧ OwnTi wr tv (mT j) ∧ (∀ x ∈ tv.ownBlock.toList, B2 ≤ x) ∧ OwnZn wr (.slice A0 NN cp0) (mK NN) ∧ OwnStk wr (.slice A1 i cp1) (mS i) ∧ Blk3 wr g0 (.slice A0 NN cp0) (.slice A1 i cp1) tv ∧ B2 ≤ wr.heap.size ∧ Chg [] w wr) (fun iv _ => L - (intOf iv).toNat)
          case atStart => exact ⟨0, .slice none 0 0, Nat.zero_le _, rfl, (by exact OwnTi.nil _), (by simp [Value.ownBlock]), hKv, hSv, b7, hB2, hch⟩
          case round =>
            clear b7 hch hKv hB1 hSv hB2
            obtain ⟨j, tv, hj, rfl, hown, hblk, hKv, hSv, b7, hB2, hch⟩ := hrel
            have HOWN := Lib.hid hown
            have HBT := Lib.hid hblk
            clear hblk hown
            by_cases hlt : j < L
            · have b7c2 := b7.c2
              have b7f2 := b7.f2
              have c4 : Chg [] wr (wr.alloc (.cells #[.int .i64 0, .int .i64 1] 38)) := (Chg.refl _ _).alloc _
              have hO := HOWN.out.keep0 c4
              have hbl := b7.lt
              have b7a := b7.keep0 c4
              have hKva := hKv.keep0 c4
              have hSva := hSv.keep0 c4
              have b7ac2 := b7a.c2
              have b7af2 := b7a.f2
              go_wp2_with (at_builtin; refine wpList_appendTi _ rfl (.tmp 48) (.tmp 50) rfl tv (mT j) rfl hO _ 1 ⟨0, 1⟩ rfl (sTi_new _ ⟨0, 1⟩) (by rw [mT_len]; omega) ?_)
              intro v5 w5 own5 cv5 hv5
              obtain ⟨A5, l5, cp5, rfl⟩ : ∃ A l c, v5 = .slice A l c := by obtain ⟨A, c, h, _⟩ := own5.rds; exact ⟨A, _, c, h⟩
              have b75 := b7a.keep cv5 (fun hm => by have := HBT.out _ hm; omega)
              have hK5 := hKva.keep cv5 (fun k hk hm => by have := HBT.out _ hm; have := HKL.out k (by rw [hk]; simp); omega)
              have hS5 := hSva.keep cv5 (fun k hk hm => by have := HBT.out _ hm; have := HSL.out k (by rw [hk]; simp); omega)
              have b75c2 := b75.c2
              have b75f2 := b75.f2
              clear b7ac2 b7af2 b7c2 b7f2
              have hch5 : Chg [] w w5 := (hch.then c4).trans cv5 (fun x hx => .inr (by have := HBT.out x hx; omega))
              have HB5 : Hid (∀ x ∈ (Value.slice A5 l5 cp5).ownBlock.toList, B2 ≤ x) := Lib.hid fun x hx => by
                rcases hv5 with h5 | h5
                · rw [h5] at hx; exact HBT.out x hx
                · rw [h5] at hx; simp at hx; omega
              rw [← mT_succ] at own5
              have b7S := b75.sto2 (.slice A5 l5 cp5)
              have hcn : Chg [g0] w5 (w5.setCell ⟨g0, 2, none⟩ (.slice A5 l5 cp5)) := (Chg.refl [g0] _).setCell (p := ⟨g0, 2, none⟩) (.inl (by simp)) _
              have HO5 := Lib.hid (own5.keep hcn (fun k hk hm => by simp at hm; have := HB5.out k (by rw [hk]; simp); omega))
              have hKS := hK5.keep hcn (fun k hk hm => by simp at hm; have := HK0.out k (by rw [hk]; simp); omega)
              have hSS := hS5.keep hcn (fun k hk hm => by simp at hm; have := HBS.out k (by rw [hk]; simp); omega)
              have hchS := hch5.setCell (p := ⟨g0, 2, none⟩) (.inr (show w.heap.size ≤ g0 by omega)) (.slice A5 l5 cp5)
              have hB5 : B2 ≤ (w5.setCell ⟨g0, 2, none⟩ (.slice A5 l5 cp5)).heap.size := by rw [World.size_setCell]; have := cv5.size; have := c4.size; omega
              clear own5 cv5 hv5 hch5 hcn b75 b7a hO c4 hch b7 hKva hSva hK5 hS5 hKv hSv
              go_wp2_with fail
              go_roundw
              case rel => exact ⟨j + 1, _, by omega, by go_num, HO5.out, HB5.out, hKS, hSS, b7S, hB5, hchS⟩
              case measure => simp [intOf]; omega
            · obtain rfl : j = L := by omega
              obtain ⟨A2, cp2, htv, -, -, hsT⟩ := HOWN.out.rds
              rw [mT_len] at htv
              subst htv
              obtain ⟨A0', cp0', e0, -, -, hsK⟩ := hKv.rds
              obtain ⟨A1', cp1', e1, -, -, hsS⟩ := hSv.rds
              simp only [Value.slice.injEq] at e0 e1
              obtain ⟨rfl, -, rfl⟩ := e0
              obtain ⟨rfl, -, rfl⟩ := e1
              have hp : PV.At ⟨mK NN, mS i, mT j, NN, i, j, A0, A1, A2, cp0, cp1, cp2⟩ wr := ⟨mK_len _, mS_len _, mT_len _, show NN ≤ 9223372036854775807 by omega, show i ≤ 9223372036854775807 by omega, show j ≤ 9223372036854775807 by omega, hsK, hsS, hsT⟩
              have HCP := Lib.hid (fun w h => HCK.out ⟨mK NN, mS i, mT j, NN, i, j, A0, A1, A2, cp0, cp1, cp2⟩ w h (mS_fit i))
              have hck : ckP (mK NN) (mS i) (mT j) = if 32 < NN ∨ 64 < i ∨ 64 < j then 2 else 0 := m_ck (by omega)
              dsimp only at HCP
              rw [hck] at HCP
              have b7c0 := b7.c0
              have b7c1 := b7.c1
              have b7c2 := b7.c2
              clear hck hKv hSv hsK hsS hsT HCK HOWN HBT HBS
              by_cases hl1 : 32 < NN
              · have d1 : decide ((32 : Int) < (NN : Int)) = true := decide_eq_true (by omega)
                have d1n : decide (32 < NN) = true := decide_eq_true hl1
                have d1i : decide ((32 : Int) < (NN : Int)) = true := decide_eq_true (by omega)
                rw [if_pos (.inl hl1)] at HCP
                clear hl1
                go_wp2_with fail
                refine (awake8_any _).mono ?_
                rintro e w8 ⟨rfl, c6⟩
                replace hp := hp.keep0 c6
                replace b7 := b7.keep0 c6
                replace hch := hch.then c6
                clear c6 b7c0 b7c1 b7c2
                have b7c0 := b7.c0
                have b7c1 := b7.c1
                have b7c2 := b7.c2
                go_wp2_with fail
                refine (HCP.out _ hp).mono ?_
                rintro e w9 ⟨rfl, c6⟩
                replace hch := hch.then c6
                clear c6 b7c0 b7c1 b7c2
                go_wp2_with fail
                go_ret
                exact ⟨ret_eq (by simp), hch⟩
              · have d1 : decide ((32 : Int) < (NN : Int)) = false := decide_eq_false (by omega)
                have d1i : decide ((32 : Int) < (NN : Int)) = false := decide_eq_false (by omega)
                by_cases hl2 : 64 < i
                · have d2 : decide ((64 : Int) < (i : Int)) = true := decide_eq_true (by omega)
                  rw [if_pos (.inr (.inl hl2))] at HCP
                  clear hl1 hl2
                  go_wp2_with fail
                  refine (awake8_any _).mono ?_
                  rintro e w8 ⟨rfl, c6⟩
                  replace hp := hp.keep0 c6
                  replace b7 := b7.keep0 c6
                  replace hch := hch.then c6
                  clear c6 b7c0 b7c1 b7c2
                  have b7c0 := b7.c0
                  have b7c1 := b7.c1
                  have b7c2 := b7.c2
                  go_wp2_with fail
                  refine (HCP.out _ hp).mono ?_
                  rintro e w9 ⟨rfl, c6⟩
                  replace hch := hch.then c6
                  clear c6 b7c0 b7c1 b7c2
                  go_wp2_with fail
                  go_ret
                  exact ⟨ret_eq (by simp), hch⟩
                · have d2 : decide ((64 : Int) < (i : Int)) = false := decide_eq_false (by omega)
                  by_cases hl3 : 64 < j
                  · have d3 : decide ((64 : Int) < (j : Int)) = true := decide_eq_true (by omega)
                    rw [if_pos (.inr (.inr hl3))] at HCP
                    clear hl1 hl2 hl3
                    go_wp2_with fail
                    refine (awake8_any _).mono ?_
                    rintro e w8 ⟨rfl, c6⟩
                    replace hp := hp.keep0 c6
                    replace b7 := b7.keep0 c6
                    replace hch := hch.then c6
                    clear c6 b7c0 b7c1 b7c2
                    have b7c0 := b7.c0
                    have b7c1 := b7.c1
                    have b7c2 := b7.c2
                    go_wp2_with fail
                    refine (HCP.out _ hp).mono ?_
                    rintro e w9 ⟨rfl, c6⟩
                    replace hch := hch.then c6
                    clear c6 b7c0 b7c1 b7c2
                    go_wp2_with fail
                    go_ret
                    exact ⟨ret_eq (by simp), hch⟩
                  · have d3 : decide ((64 : Int) < (j : Int)) = false := decide_eq_false (by omega)
                    rw [if_neg (by omega)] at HCP
                    clear hl1 hl2 hl3
                    go_wp2_with fail
                    refine (awake8_any _).mono ?_
                    rintro e w8 ⟨rfl, c6⟩
                    replace hp := hp.keep0 c6
                    replace b7 := b7.keep0 c6
                    replace hch := hch.then c6
                    clear c6 b7c0 b7c1 b7c2
                    have b7c0 := b7.c0
                    have b7c1 := b7.c1
                    have b7c2 := b7.c2
                    go_wp2_with fail
                    refine (HCP.out _ hp).mono ?_
                    rintro e w9 ⟨rfl, c6⟩
                    replace hch := hch.then c6
                    clear c6 b7c0 b7c1 b7c2
                    go_wp2_with fail
                    go_ret
                    exact ⟨ret_eq (by simp), hch⟩
end Go.Proofs.Ytgdpcpbmjgaliaa
