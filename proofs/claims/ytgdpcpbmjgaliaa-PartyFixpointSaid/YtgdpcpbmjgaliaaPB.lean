/-
  Party: law 0's Parties.
-/
import Derived.Test.YtgdpcpbmjgaliaaPBm
namespace Go.Proofs.Ytgdpcpbmjgaliaa
open Go.RowKit Nd

theorem Blk3.sto0 {w : World} {g : Nat} {a b c : Value} (h : Blk3 w g a b c) (v : Value) : Blk3 (w.setCell ⟨g, 0, none⟩ v) g v b c := by
  obtain ⟨c0, c1, c2, f0, f1, f2, l⟩ := h
  refine ⟨by simp [go_sem, c0], by simp [go_sem, c1], by simp [go_sem, c2], ?_, ?_, ?_, by simpa using l⟩
  · rw [World.frozen?_setCell]; exact f0
  · rw [World.frozen?_setCell]; exact f1
  · rw [World.frozen?_setCell]; exact f2
theorem Blk3.sto1c {w : World} {g : Nat} {a b c : Value} (h : Blk3 w g a b c) (v : Value) : Blk3 (w.setCell ⟨g, 1, none⟩ v) g a v c := by
  obtain ⟨c0, c1, c2, f0, f1, f2, l⟩ := h
  refine ⟨by simp [go_sem, c0], by simp [go_sem, c1], by simp [go_sem, c2], ?_, ?_, ?_, by simpa using l⟩
  · rw [World.frozen?_setCell]; exact f0
  · rw [World.frozen?_setCell]; exact f1
  · rw [World.frozen?_setCell]; exact f2
theorem Blk3.sto2 {w : World} {g : Nat} {a b c : Value} (h : Blk3 w g a b c) (v : Value) : Blk3 (w.setCell ⟨g, 2, none⟩ v) g a b v := by
  obtain ⟨c0, c1, c2, f0, f1, f2, l⟩ := h
  refine ⟨by simp [go_sem, c0], by simp [go_sem, c1], by simp [go_sem, c2], ?_, ?_, ?_, by simpa using l⟩
  · rw [World.frozen?_setCell]; exact f0
  · rw [World.frozen?_setCell]; exact f1
  · rw [World.frozen?_setCell]; exact f2
theorem own_shape {w : World} {v : Value} {xs : List Zn} (h : OwnZn w v xs) : ∃ A c, v = .slice A xs.length c ∧ SZn w A xs ∧ xs.length ≤ 9223372036854775807 ∧ (∀ x ∈ v.ownBlock.toList, x < w.heap.size) := by
  obtain ⟨A, c, rfl, h1, h2, h3⟩ := h.rds
  exact ⟨A, c, rfl, h3, by omega, fun x hx => (World.ownsRow.lt h x (by simpa using hx)).2⟩
theorem own_shapeS {w : World} {v : Value} {xs : List Stk} (h : OwnStk w v xs) : ∃ A c, v = .slice A xs.length c ∧ SStk w A xs ∧ xs.length ≤ c ∧ c ≤ 9223372036854775807 ∧ (∀ x ∈ v.ownBlock.toList, x < w.heap.size) := by
  obtain ⟨A, c, rfl, h1, h2, h3⟩ := h.rds
  exact ⟨A, c, rfl, h3, h1, h2, fun x hx => (World.ownsRow.lt h x (by simpa using hx)).2⟩
theorem own_shapeT {w : World} {v : Value} {xs : List Ti} (h : OwnTi w v xs) : ∃ A c, v = .slice A xs.length c ∧ STi w A xs ∧ xs.length ≤ 9223372036854775807 ∧ (∀ x ∈ v.ownBlock.toList, x < w.heap.size) := by
  obtain ⟨A, c, rfl, h1, h2, h3⟩ := h.rds
  exact ⟨A, c, rfl, h3, by omega, fun x hx => (World.ownsRow.lt h x (by simpa using hx)).2⟩
theorem OffV.of {gs : List Nat} {v : Value} (h : ∀ x ∈ v.ownBlock.toList, x ∉ gs) : OffV gs v := fun k hk => h k (by rw [hk]; simp)
theorem getD_mem {K : List Zn} {c : Nat} (h : c < K.length) : K.getD c zn0 ∈ K := memZn h

set_option maxRecDepth 20000 in
set_option linter.unusedSimpArgs false in
set_option maxHeartbeats 8000000 in
theorem parties_any (n ks : Int) (l3 l2 : Nat) (A3 A2 : Option Addr) (c3 c2 : Nat) (L3 : List T3) (L2 : List T2) (w : World) (hn : 0 ≤ n ∧ n ≤ 255) (hks : 0 ≤ ks ∧ ks ≤ 65535) (h3 : L3.length = l3) (hl3 : l3 ≤ 9223372036854775807) (i3 : ∀ x ∈ L3, InT3 x) (x3 : ST3 w A3 L3) (h2 : L2.length = l2) (hl2 : l2 ≤ 9223372036854775807) (i2 : ∀ x ∈ L2, InT2 x) (x2 : ST2 w A2 L2) :
    Calls Try.prog 26 #[.int .u8 n, .int .u16 ks, .slice A3 l3 c3, .slice A2 l2 c2] w fun e w' => ∃ p : PV, e = .returned p.val ∧ p.At w' ∧ GoodP p ∧ Chg [] w w' := by
  obtain ⟨n1, n2⟩ := hn
  obtain ⟨N, HN⟩ : ∃ N : Nat, Hid (n % 6 = (N : Int)) := ⟨(n % 6).toNat, Lib.hid (by omega)⟩
  have N1 : N < 6 := by have := HN.out; omega
  obtain ⟨Z, HZ⟩ : ∃ Z : Nat, Hid (Z = N + 2) := ⟨N + 2, Lib.hid rfl⟩
  have Z1 : Z ≤ 7 := by have := HZ.out; omega
  have Z2 : 2 ≤ Z := by have := HZ.out; omega
  have f1 : n % 6 = (N : Int) := HN.out
  have f2 : n.tmod 6 = (N : Int) := by rw [Int.tmod_eq_emod_of_nonneg n1]; exact HN.out
  have HZZ : Hid ((2 : Int) + (N : Int) = (Z : Int)) := Lib.hid (by have := HZ.out; omega)
  have HRT : Hid (∀ (r : Nat) w, r < 7 → Calls Try.prog 16 #[.int .i64 (1 + (r : Int)), .int .i64 10] w fun e w' => ∃ z, e = .returned (.agg #[.bool z.neg, .string z.num, .string z.den]) ∧ Val z (((r + 1 : Nat) : Rat) / 10) 8 ∧ Chg [] w w') := Lib.hid fun r w hr => by
    have h := ratio_any (1 + (r : Int)) 10 w (by omega) (by omega) (by omega) (by omega)
    rw [frac_eq (by omega) (by omega)] at h
    have e : (((1 : Int) + (r : Int) : Int) : Rat) = ((r + 1 : Nat) : Rat) := by
      rw [← Rat.intCast_natCast]; congr 1; omega
    rw [e] at h
    exact h
  have H3 := Lib.hid h3
  have H2 := Lib.hid h2
  have HI3 := Lib.hid i3
  have HI2 := Lib.hid i2
  have HL3 := Lib.hid x3.form
  have HL2 := Lib.hid x2.form
  have c1 : Chg [] w (w.alloc (.cells #[.slice none 0 0, .slice none 0 0, .slice none 0 0] 26)) := (Chg.refl _ _).alloc _
  have c2 : Chg [] (w.alloc (.cells #[.slice none 0 0, .slice none 0 0, .slice none 0 0] 26)) ((w.alloc (.cells #[.slice none 0 0, .slice none 0 0, .slice none 0 0] 26)).alloc (.cells #[.slice none 0 0, .slice none 0 0, .slice none 0 0] 26)) := (Chg.refl _ _).alloc _
  have b8 := (Blk3.alloc w (.slice none 0 0) (.slice none 0 0) (.slice none 0 0) 26).keep0 c2
  have b9 := Blk3.alloc (w.alloc (.cells #[.slice none 0 0, .slice none 0 0, .slice none 0 0] 26)) (.slice none 0 0) (.slice none 0 0) (.slice none 0 0) 26
  rw [World.size_alloc] at b9
  have hch := c1.then c2
  replace x3 := x3.keep0 hch
  replace x2 := x2.keep0 hch
  clear c1 c2 h3 h2 i3 i2 n1 n2 HN
  obtain ⟨iI, hiI, hz0, hz1, hzb⟩ := infoInt
  go_enter Try.func26, Try.ntmps26
  go_upto_region 3 with fail
  rw [HZZ.out]
  obtain ⟨w0, HW0⟩ := name_it ((w.alloc (.cells #[.slice none 0 0, .slice none 0 0, .slice none 0 0] 26)).alloc (.cells #[.slice none 0 0, .slice none 0 0, .slice none 0 0] 26))
  have hsz0 : w0.heap.size = w.heap.size + 1 + 1 := by rw [← HW0.out]; simp
  rw [HW0.out] at b8 b9 x3 x2 hch ⊢
  obtain ⟨g0, HG0⟩ := name_it w.heap.size
  rw [HG0.out] at b8 b9 hsz0 HL3 HL2 ⊢
  have hg0 : w.heap.size ≤ g0 := Nat.le_of_eq HG0.out
  clear HW0 f1 f2
  go_wp2_with (first
    | (at_make; refine wpList_makeF _ rfl (.tmp 28) (.tmp 28) 22 rfl 3 iI _ Try.underlying22 hiI hz0 hz1 rfl .i64 .i64 Z rfl rfl (by rw [hzb]; omega) (by omega) ?_
       intro wm hU cm
       replace b8 := b8.keep0 cm
       replace b9 := b9.keep0 cm
       replace x3 := x3.keep0 cm
       replace x2 := x2.keep0 cm
       replace hch := hch.then cm
       clear cm)
    | fail)
  rw [hsz0] at hU
  clear hsz0
  go_loopw [12] (fun iv wr => ∃ (i : Nat) (kv : Value) (K : List Zn), i ≤ Z ∧ iv = .int .i64 i ∧ K.length = i ∧ (∀ k ∈ K, k.x = 1 ∨ k.x = 2) ∧ OwnZn wr kv K ∧ (∀ x ∈ kv.ownBlock.toList, g0 + 2 < x) ∧ Blk3 wr (g0 + 1) kv (.slice none 0 0) (.slice none 0 0) ∧ Fb wr (g0 + 1 + 1) Z (fun _ => .int .i64 0) ∧ Blk3 wr g0 (.slice none 0 0) (.slice none 0 0) (.slice none 0 0) ∧ ST3 wr A3 L3 ∧ ST2 wr A2 L2 ∧ Chg [] w wr) (fun iv _ => Z - (intOf iv).toNat)
  case atStart => exact ⟨0, .slice none 0 0, [], Nat.zero_le _, rfl, rfl, (fun _ h => by cases h), (by exact OwnZn.nil _), (by simp [Value.ownBlock]), b9, hU, b8, x3, x2, hch⟩
  case round =>
    clear b8 b9 hU x3 x2 hch
    obtain ⟨i, kv, K, hi, rfl, hkl, hk2, hown, hblk, b9, hU, b8, x3, x2, hch⟩ := hrel
    have HKL := Lib.hid hkl
    have HK2 := Lib.hid hk2
    have HOWN := Lib.hid hown
    have HBK := Lib.hid hblk
    clear hkl hk2 hown hblk
    by_cases hlt : i < Z
    · obtain ⟨wo, hwo⟩ : ∃ wo, wo = wr := ⟨_, rfl⟩
      subst hwo
      go_upto_region 8 with fail
      go_cut [45] from 30 to 51 (fun v wx => ∃ bq, wx = wo ∧ v = .bool bq)
      case first =>
        by_cases h0 : i = 0
        · subst h0
          go_wp2_with fail
          go_meet
          exact ⟨_, rfl, rfl⟩
        · have e0 : ((i : Int) == 0) = false := by simp [h0]
          have e1 : ¬ i = 0 := h0
          have e2 : ¬ (i : Int) = 0 := by omega
          go_wp2_with fail
          go_meet
          exact ⟨_, rfl, rfl⟩
      case rest =>
        obtain ⟨bq, rfl, rfl⟩ := hcut
        cases bq with
        | true =>
          have c4 : Chg [] wc (wc.alloc (.cells #[.int .i64 1] 3)) := (Chg.refl _ _).alloc _
          have hO := HOWN.out.keep0 c4
          have hbl := b9.lt
          have hsz := hU.lt
          have b9a := b9.keep0 c4
          have b9ac0 := b9a.c0
          have b9af0 := b9a.f0
          have b9c0 := b9.c0
          have b9f0 := b9.f0
          have b8a := b8.keep0 c4
          have hUa := hU.keep0 c4
          have x3a := x3.keep0 c4
          have x2a := x2.keep0 c4
          have hcha := hch.then c4
          go_wp2_with (at_builtin; refine wpList_appendZn _ rfl (.tmp 47) (.tmp 49) rfl kv K rfl hO _ 1 ⟨1⟩ rfl (sZn_new _ ⟨1⟩) (by rw [HKL.out]; omega) ?_)
          intro v5 w5 own5 cv5 hv5
          obtain ⟨A5, l5, cp5, rfl⟩ : ∃ A l c, v5 = .slice A l c := by obtain ⟨A, c, h, _⟩ := own5.rds; exact ⟨A, _, c, h⟩
          have HB5 : Hid (∀ x ∈ (Value.slice A5 l5 cp5).ownBlock.toList, g0 + 2 < x) := Lib.hid fun x hx => by
            rcases hv5 with h5 | h5
            · rw [h5] at hx; exact HBK.out x hx
            · rw [h5] at hx; simp at hx; omega
          have hnm : ∀ y, y ∈ kv.ownBlock.toList → g0 + 2 < y := HBK.out
          have b95 := b9a.keep cv5 (fun hm => by have := hnm _ hm; omega)
          have b85 := b8a.keep cv5 (fun hm => by have := hnm _ hm; omega)
          have hU5 := hUa.keep cv5 (fun hm => by have := hnm _ hm; omega)
          have x35 := x3a.keepL HL3.out cv5 (fun y hy => by have := hnm y hy; omega)
          have x25 := x2a.keepL HL2.out cv5 (fun y hy => by have := hnm y hy; omega)
          have hch5 := hcha.trans cv5 (fun y hy => .inr (by have := hnm y hy; omega))
          have hcn : Chg [g0 + 1] w5 (w5.setCell ⟨g0 + 1, 0, none⟩ (.slice A5 l5 cp5)) := (Chg.refl [g0 + 1] _).setCell (p := ⟨g0 + 1, 0, none⟩) (.inl (by simp)) _
          have b9S := b95.sto0 (.slice A5 l5 cp5)
          have b8S := b85.keep hcn (by simp)
          have hUS := hU5.keep hcn (by simp)
          have x3S := x35.keepL HL3.out hcn (fun y hy => by simp at hy; omega)
          have x2S := x25.keepL HL2.out hcn (fun y hy => by simp at hy; omega)
          have hO5 := own5.keep hcn (OffV.of fun y hy hm => by simp at hm; have := HB5.out y hy; omega)
          have hchS := hch5.setCell (p := ⟨g0 + 1, 0, none⟩) (.inr (show w.heap.size ≤ g0 + 1 by omega)) (.slice A5 l5 cp5)
          have HKN5 : Hid ((K ++ [(⟨1⟩ : Zn)]).length = i + 1) := Lib.hid (by rw [List.length_append, HKL.out]; rfl)
          have HK25 : Hid (∀ k ∈ K ++ [(⟨1⟩ : Zn)], k.x = 1 ∨ k.x = 2) := Lib.hid fun k hk => by
            rcases List.mem_append.1 hk with hk | hk
            · exact HK2.out k hk
            · simp at hk; rw [hk]; simp
          have b95c0 := b95.c0
          have b95f0 := b95.f0
          clear b9ac0 b9af0 b9c0 b9f0 own5 cv5 hv5 hnm hcn b95 b85 hU5 x35 x25 hch5 b9a b8a hUa x3a x2a hcha hO c4 b9 b8 hU x3 x2 hch
          go_wp2_with fail
          go_roundw
          case rel => exact ⟨i + 1, _, _, by omega, by go_num, HKN5.out, HK25.out, hO5, HB5.out, b9S, hUS, b8S, x3S, x2S, hchS⟩
          case measure => simp [intOf]; omega
        | false =>
          have c4 : Chg [] wc (wc.alloc (.cells #[.int .i64 2] 3)) := (Chg.refl _ _).alloc _
          have hO := HOWN.out.keep0 c4
          have hbl := b9.lt
          have hsz := hU.lt
          have b9a := b9.keep0 c4
          have b9ac0 := b9a.c0
          have b9af0 := b9a.f0
          have b9c0 := b9.c0
          have b9f0 := b9.f0
          have b8a := b8.keep0 c4
          have hUa := hU.keep0 c4
          have x3a := x3.keep0 c4
          have x2a := x2.keep0 c4
          have hcha := hch.then c4
          go_wp2_with (at_builtin; refine wpList_appendZn _ rfl (.tmp 47) (.tmp 49) rfl kv K rfl hO _ 1 ⟨2⟩ rfl (sZn_new _ ⟨2⟩) (by rw [HKL.out]; omega) ?_)
          intro v5 w5 own5 cv5 hv5
          obtain ⟨A5, l5, cp5, rfl⟩ : ∃ A l c, v5 = .slice A l c := by obtain ⟨A, c, h, _⟩ := own5.rds; exact ⟨A, _, c, h⟩
          have HB5 : Hid (∀ x ∈ (Value.slice A5 l5 cp5).ownBlock.toList, g0 + 2 < x) := Lib.hid fun x hx => by
            rcases hv5 with h5 | h5
            · rw [h5] at hx; exact HBK.out x hx
            · rw [h5] at hx; simp at hx; omega
          have hnm : ∀ y, y ∈ kv.ownBlock.toList → g0 + 2 < y := HBK.out
          have b95 := b9a.keep cv5 (fun hm => by have := hnm _ hm; omega)
          have b85 := b8a.keep cv5 (fun hm => by have := hnm _ hm; omega)
          have hU5 := hUa.keep cv5 (fun hm => by have := hnm _ hm; omega)
          have x35 := x3a.keepL HL3.out cv5 (fun y hy => by have := hnm y hy; omega)
          have x25 := x2a.keepL HL2.out cv5 (fun y hy => by have := hnm y hy; omega)
          have hch5 := hcha.trans cv5 (fun y hy => .inr (by have := hnm y hy; omega))
          have hcn : Chg [g0 + 1] w5 (w5.setCell ⟨g0 + 1, 0, none⟩ (.slice A5 l5 cp5)) := (Chg.refl [g0 + 1] _).setCell (p := ⟨g0 + 1, 0, none⟩) (.inl (by simp)) _
          have b9S := b95.sto0 (.slice A5 l5 cp5)
          have b8S := b85.keep hcn (by simp)
          have hUS := hU5.keep hcn (by simp)
          have x3S := x35.keepL HL3.out hcn (fun y hy => by simp at hy; omega)
          have x2S := x25.keepL HL2.out hcn (fun y hy => by simp at hy; omega)
          have hO5 := own5.keep hcn (OffV.of fun y hy hm => by simp at hm; have := HB5.out y hy; omega)
          have hchS := hch5.setCell (p := ⟨g0 + 1, 0, none⟩) (.inr (show w.heap.size ≤ g0 + 1 by omega)) (.slice A5 l5 cp5)
          have HKN5 : Hid ((K ++ [(⟨2⟩ : Zn)]).length = i + 1) := Lib.hid (by rw [List.length_append, HKL.out]; rfl)
          have HK25 : Hid (∀ k ∈ K ++ [(⟨2⟩ : Zn)], k.x = 1 ∨ k.x = 2) := Lib.hid fun k hk => by
            rcases List.mem_append.1 hk with hk | hk
            · exact HK2.out k hk
            · simp at hk; rw [hk]; simp
          have b95c0 := b95.c0
          have b95f0 := b95.f0
          clear b9ac0 b9af0 b9c0 b9f0 own5 cv5 hv5 hnm hcn b95 b85 hU5 x35 x25 hch5 b9a b8a hUa x3a x2a hcha hO c4 b9 b8 hU x3 x2 hch
          go_wp2_with fail
          go_roundw
          case rel => exact ⟨i + 1, _, _, by omega, by go_num, HKN5.out, HK25.out, hO5, HB5.out, b9S, hUS, b8S, x3S, x2S, hchS⟩
          case measure => simp [intOf]; omega
    · obtain rfl : Z = i := by omega
      obtain ⟨A0, cp0, rfl, hsk, -, hkb⟩ := own_shape HOWN.out
      have hKv := HOWN.out
      rw [HKL.out] at hKv b9 HBK hkb
      have hg1 : g0 + 1 < wr.heap.size := b9.lt
      have hg2 : g0 + 1 + 1 < wr.heap.size := hU.lt
      obtain ⟨B1, HB1⟩ := name_it wr.heap.size
      have hB1 : B1 ≤ wr.heap.size := Nat.le_of_eq HB1.out.symm
      rw [HB1.out] at hg1 hg2 hkb
      have HKB := Lib.hid hkb
      clear hkb HOWN
      go_wp2_with fail
      go_loopw [54] (fun iv wr => ∃ (j : Nat) (sv : Value) (S : List Stk) (sm : Nat → Nat), j ≤ l3 ∧ iv = .int .i64 j ∧ BltS K S sm ∧ S.length ≤ 20 ∧ OwnStk wr sv S ∧ (∀ x ∈ sv.ownBlock.toList, B1 ≤ x) ∧ OwnZn wr (.slice A0 Z cp0) K ∧ Blk3 wr (g0 + 1) (.slice A0 Z cp0) sv (.slice none 0 0) ∧ Fb wr (g0 + 1 + 1) Z (fun c => .int .i64 ((sm c : Nat) : Int)) ∧ Blk3 wr g0 (.slice none 0 0) (.slice none 0 0) (.slice none 0 0) ∧ ST3 wr A3 L3 ∧ ST2 wr A2 L2 ∧ B1 ≤ wr.heap.size ∧ Chg [] w wr) (fun iv _ => l3 - (intOf iv).toNat)
      case atStart => exact ⟨0, .slice none 0 0, [], fun _ => 0, Nat.zero_le _, rfl, BltS.nil K, (by simp), (by exact OwnStk.nil _), (by simp [Value.ownBlock]), hKv, b9, hU, b8, x3, x2, hB1, hch⟩
      case round =>
        clear hKv b9 hU b8 x3 x2 hB1 hch hsk
        obtain ⟨j, sv, S, sm, hj, rfl, hbs, hS20, hown, hblk, hKv, b9, hU, b8, x3, x2, hB1, hch⟩ := hrel
        have HBS := Lib.hid hbs
        have HBK2 := Lib.hid hblk
        clear hbs hblk
        by_cases hlt : j < l3
        · obtain ⟨g3, o3, rfl, hgl3⟩ := x3.form (by rw [H3.out]; exact Nat.lt_of_le_of_lt (Nat.zero_le _) hlt)
          have hcx := x3.at_ (j := j) (by rw [H3.out]; exact hlt)
          have hin := HI3.out _ (memT3 (l := L3) (j := j) (by rw [H3.out]; exact hlt))
          obtain ⟨t, HT⟩ := name_it (L3.getD j t30)
          rw [HT.out] at hcx hin
          obtain ⟨ta, HTA⟩ := name_it t.a
          obtain ⟨tb, HTB⟩ := name_it t.b
          obtain ⟨tc, HTC⟩ := name_it t.c
          obtain ⟨ia1, ia2, ib1, ib2, ic1, ic2⟩ := hin
          rw [HTA.out] at ia1 ia2
          rw [HTB.out] at ib1 ib2
          rw [HTC.out] at ic1 ic2
          obtain ⟨a0, a1, a2, -⟩ := hcx
          rw [HTA.out] at a0
          rw [HTB.out] at a1
          rw [HTC.out] at a2
          obtain ⟨a, HA⟩ : ∃ a : Nat, Hid (ta % (Z : Int) = (a : Int)) := ⟨(ta % (Z : Int)).toNat, Lib.hid (by have := Int.emod_nonneg ta (show (Z : Int) ≠ 0 by omega); omega)⟩
          obtain ⟨c, HC⟩ : ∃ c : Nat, Hid (tb % (Z : Int) = (c : Int)) := ⟨(tb % (Z : Int)).toNat, Lib.hid (by have := Int.emod_nonneg tb (show (Z : Int) ≠ 0 by omega); omega)⟩
          obtain ⟨r, HR⟩ : ∃ r : Nat, Hid (tc % 7 = (r : Int)) := ⟨(tc % 7).toNat, Lib.hid (by omega)⟩
          have haz : a < Z := by have := Int.emod_lt_of_pos ta (show (0 : Int) < Z by omega); have := HA.out; omega
          have hcz1 : c < Z := by have := Int.emod_lt_of_pos tb (show (0 : Int) < Z by omega); have := HC.out; omega
          have hr7 : r < 7 := by have := HR.out; omega
          have e1 : ta.tmod (Z : Int) = (a : Int) := by rw [Int.tmod_eq_emod_of_nonneg ia1]; exact HA.out
          have e2 : tb.tmod (Z : Int) = (c : Int) := by rw [Int.tmod_eq_emod_of_nonneg ib1]; exact HC.out
          have e3 : tc.tmod 7 = (r : Int) := by rw [Int.tmod_eq_emod_of_nonneg ic1]; exact HR.out
          have e4 : tc % 7 = (r : Int) := HR.out
          have z0 : ((Z : Int) == 0) = false := by simp; omega
          have z0n : ¬ (Z : Int) = 0 := by omega
          have z0m : ¬ Z = 0 := by omega
          have c4 : Chg [] wr (wr.alloc (.cells #[.int .u16 ta, .int .u16 tb, .int .u16 tc] 80)) := (Chg.refl _ _).alloc _
          have b15 := Blk3.alloc wr (.int .u16 ta) (.int .u16 tb) (.int .u16 tc) 80
          replace hown := hown.keep0 c4
          replace hKv := hKv.keep0 c4
          replace b9 := b9.keep0 c4
          replace hU := hU.keep0 c4
          replace b8 := b8.keep0 c4
          replace x3 := x3.keep0 c4
          replace x2 := x2.keep0 c4
          have hB2 : B1 ≤ (wr.alloc (.cells #[.int .u16 ta, .int .u16 tb, .int .u16 tc] 80)).heap.size := Nat.le_trans hB1 c4.size
          replace hch := hch.then c4
          clear c4 hB1
          have j1 : (0 : Int) ≤ (j : Int) := by omega
          have j2 : (j : Int) < (l3 : Int) := by omega
          have b15c0 := b15.c0
          have b15c1 := b15.c1
          have b15c2 := b15.c2
          go_wp2_with fail
          obtain ⟨w5, HW5⟩ := name_it (wr.alloc (.cells #[.int .u16 ta, .int .u16 tb, .int .u16 tc] 80))
          obtain ⟨g15, HG15⟩ := name_it wr.heap.size
          rw [HW5.out] at hown hKv b9 hU b8 x3 x2 hB2 hch b15 b15c0 b15c1 b15c2 ⊢
          rw [HG15.out] at b15 b15c0 b15c1 b15c2 ⊢
          clear a0 a1 a2 HW5 HG15
          go_quiet (fail)
          have c8 : Chg [] w5 (w5.drewN nq) := (Chg.refl _ _).drewN _
          replace hown := hown.keep0 c8
          replace hKv := hKv.keep0 c8
          replace b9 := b9.keep0 c8
          replace hU := hU.keep0 c8
          replace b8 := b8.keep0 c8
          replace x3 := x3.keep0 c8
          replace x2 := x2.keep0 c8
          replace hB2 := Nat.le_trans hB2 c8.size
          replace hch := hch.then c8
          clear c8 b15 b15c0 b15c1 b15c2 e1 e2 e3 e4 z0 z0n z0m
          obtain ⟨w6, HW6⟩ := name_it (w5.drewN nq)
          rw [HW6.out] at hown hKv b9 hU b8 x3 x2 hB2 hch ⊢
          clear HW6
          obtain ⟨A1, cp1, hsv, -, -, -, hsb⟩ := own_shapeS hown
          obtain ⟨sl, HSL⟩ := name_it S.length
          rw [HSL.out] at hsv hS20
          subst hsv
          obtain ⟨A0', cp0', hkv', -, -, hsk⟩ := hKv.rds
          simp only [Value.slice.injEq] at hkv'
          obtain ⟨rfl, -, rfl⟩ := hkv'
          obtain ⟨gk, ok, rfl, hgk⟩ := hsk.form (by rw [HKL.out]; omega)
          have hck := (hsk.at_ (j := c) (by rw [HKL.out]; exact hcz1)).c0
          rw [Nat.mul_one] at hck
          have hkk := Lib.hid (HK2.out _ (memZn (l := K) (j := c) (by rw [HKL.out]; exact hcz1)))
          obtain ⟨kd, HKD⟩ := name_it ((K.getD c zn0).x)
          rw [HKD.out] at hck hkk
          have hcu : w6.cell? ⟨g0 + 1 + 1, c, none⟩ = some (.int .i64 ((sm c : Nat) : Int)) := hU.cell c hcz1
          obtain ⟨sc, HSC⟩ := name_it (sm c)
          rw [HSC.out] at hcu
          have b9c0 := b9.c0
          have b9c1 := b9.c1
          have k1 : (0 : Int) ≤ (c : Int) := by omega
          have k2 : (c : Int) < (Z : Int) := by omega
          clear hsk
          have hs10 : sc ≤ 10 := by rw [← HSC.out]; exact HBS.out.le c
          obtain ⟨si, HSI⟩ := name_it ((sc : Nat) : Int)
          obtain ⟨vi, HVI⟩ := name_it ((1 : Int) + (r : Int))
          rw [HSI.out] at hcu
          rw [HVI.out]
          have s1 : 0 ≤ si := by rw [← HSI.out]; omega
          have s2 : si ≤ 10 := by rw [← HSI.out]; omega
          have v1 : 1 ≤ vi := by rw [← HVI.out]; omega
          have v2 : vi ≤ 7 := by rw [← HVI.out]; omega
          by_cases hac : a = c
          · subst hac
            go_wp2_with fail
            go_roundw
            case rel => exact ⟨j + 1, _, S, sm, by omega, by go_num, HBS.out, (by rw [HSL.out]; exact hS20), hown, HBK2.out, hKv, b9, hU, b8, x3, x2, hB2, hch⟩
            case measure => simp [intOf]; omega
          · have q1 : ((a : Int) == (c : Int)) = false := by simp; omega
            have q2 : (a == c) = false := by simp [hac]
            have q3 : ¬ (a : Int) = (c : Int) := by omega
            have HAC := Lib.hid q3
            rcases hkk.out with hk1 | hk1
            · subst hk1
              go_wp2_with fail
              go_roundw
              case rel => exact ⟨j + 1, _, S, sm, by omega, by go_num, HBS.out, (by rw [HSL.out]; exact hS20), hown, HBK2.out, hKv, b9, hU, b8, x3, x2, hB2, hch⟩
              case measure => simp [intOf]; omega
            · have HKC : Hid ((K.getD c zn0).x = 2) := Lib.hid (by rw [HKD.out, hk1])
              subst hk1
              by_cases h10 : si + vi ≤ 10
              · have r1 : decide ((10 : Int) < si + vi) = false := decide_eq_false (by omega)
                by_cases h20 : 20 ≤ sl
                · have r2 : decide ((20 : Int) ≤ (sl : Int)) = true := decide_eq_true (by omega)
                  clear h10 h20
                  go_wp2_with fail
                  go_roundw
                  case rel => exact ⟨j + 1, _, S, sm, by omega, by go_num, HBS.out, (by rw [HSL.out]; exact hS20), hown, HBK2.out, hKv, b9, hU, b8, x3, x2, hB2, hch⟩
                  case measure => simp [intOf]; omega
                · have r2 : decide ((20 : Int) ≤ (sl : Int)) = false := decide_eq_false (by omega)
                  have HSLT : Hid (sl < 20) := Lib.hid (by omega)
                  have hcf := hU.frz c hcz1
                  have hUl := hU.lt
                  have HADD := Lib.hid (fun z (hz : Val z (((r + 1 : Nat) : Rat) / 10) 8) => HBS.out.add (a := a) (c := c) (v := r + 1) (by rw [HKL.out]; exact haz) (by rw [HKL.out]; exact hcz1) HAC.out HKC.out (by omega) hz (by rw [HSC.out]; have := HSI.out; have := HVI.out; omega))
                  have hcn : Chg [g0 + 1 + 1] w6 (w6.setCell ⟨g0 + 1 + 1, c, none⟩ (.int .i64 (si + vi))) := (Chg.refl [g0 + 1 + 1] _).setCell (p := ⟨g0 + 1 + 1, c, none⟩) (.inl (by simp)) _
                  have HRV : Hid (∀ w, Calls Try.prog 16 #[.int .i64 vi, .int .i64 10] w fun e w' => ∃ z, e = .returned (.agg #[.bool z.neg, .string z.num, .string z.den]) ∧ Val z (((r + 1 : Nat) : Rat) / 10) 8 ∧ Chg [] w w') := Lib.hid fun w => by rw [← HVI.out]; exact HRT.out r w hr7
                  have hg1b : g0 + 1 < B1 ∧ g0 + 1 + 1 < B1 := ⟨hg1, hg2⟩
                  have hUS := hU.store hcz1 (.int .i64 (si + vi)) (fun d => .int .i64 ((updB sm c (sm c + (r + 1)) d : Nat) : Int)) (by rw [updB_at, HSC.out]; congr 1; have := HSI.out; have := HVI.out; omega) (fun d _ e => by rw [updB_ne _ _ e])
                  have hownS := hown.keep hcn (OffV.of fun y hy hm => by simp at hm; have := HBK2.out y hy; omega)
                  have hKvS := hKv.keep hcn (OffV.of fun y hy hm => by simp at hm; have := HBK.out y hy; omega)
                  have b9S := b9.keep hcn (by simp)
                  have b8S := b8.keep hcn (by simp; omega)
                  have x3S := x3.keepL HL3.out hcn (fun y hy => by simp at hy; omega)
                  have x2S := x2.keepL HL2.out hcn (fun y hy => by simp at hy; omega)
                  have hB3 := Nat.le_trans hB2 hcn.size
                  have hchS := hch.setCell (p := ⟨g0 + 1 + 1, c, none⟩) (.inr (show w.heap.size ≤ g0 + 1 + 1 by omega)) (.int .i64 (si + vi))
                  clear hcn h10 h20 hown hKv b9 hU b8 x3 x2 hB2 hch hsb
                  go_wp2_with fail
                  obtain ⟨w7, HW7⟩ := name_it (w6.setCell ⟨g0 + 1 + 1, c, none⟩ (.int .i64 (si + vi)))
                  rw [HW7.out] at hownS hKvS b9S hUS b8S x3S x2S hB3 hchS ⊢
                  have c8 : Chg [] w7 w7.drew := (Chg.refl _ _).drew
                  have hown := hownS.keep0 c8
                  have hKv := hKvS.keep0 c8
                  have b9 := b9S.keep0 c8
                  have hU := hUS.keep0 c8
                  have b8 := b8S.keep0 c8
                  have x3 := x3S.keep0 c8
                  have x2 := x2S.keep0 c8
                  have hB4 : B1 ≤ w7.drew.heap.size := hB3
                  have hcz := hchS.then c8
                  clear c8 hownS hKvS b9S hUS b8S x3S x2S hB3 hchS hck hcu b9c0 b9c1 hcf q1 q2 q3 r1 r2 HW7
                  refine wp_region_held_drew (S := (fun _ => True)) (by kernel_rfl) ?_ (fun hHeld => ?_)
                  · exact trivial
                  obtain ⟨wz, HWz⟩ := name_it w7.drew
                  rw [HWz.out] at b9 hown hKv hU b8 x3 x2 hcz hB4 ⊢
                  have hcy : Chg [] wz wz := Chg.refl _ _
                  refine wpAnyH_take (i := 0) (v := ?_) rfl (by kernel_rfl) (by kernel_rfl) (by kernel_rfl) (fun _ _ _ h => h) (Or.inl ⟨by rfl, ?_⟩) (by assumption) ?_
                  rotate_left 1
                  · intro w hSw
                    try dsimp only at hSw
                    go_simp
                    try with_reducible rfl
                  try simp only [List.getElem_toArray, List.getElem_cons_succ, List.getElem_cons_zero]
                  try simp only [Act.put, List.setIfInBounds_toArray, List.set_cons_zero, List.set_cons_succ]
                  refine wpAnyH_take (i := 2) (v := ?_) rfl (by kernel_rfl) (by kernel_rfl) (by kernel_rfl) (fun _ _ _ h => h) (Or.inl ⟨by rfl, ?_⟩) (by assumption) ?_
                  rotate_left 1
                  · intro w hSw
                    try dsimp only at hSw
                    go_simp
                    try with_reducible rfl
                  try simp only [List.getElem_toArray, List.getElem_cons_succ, List.getElem_cons_zero]
                  try simp only [Act.put, List.setIfInBounds_toArray, List.set_cons_zero, List.set_cons_succ]
                  refine wpAnyH_take (i := 3) (v := ?_) rfl (by kernel_rfl) (by kernel_rfl) (by kernel_rfl) (fun _ _ _ h => h) (Or.inl ⟨by rfl, ?_⟩) (by assumption) ?_
                  rotate_left 1
                  · intro w hSw
                    try dsimp only at hSw
                    go_simp
                    try with_reducible rfl
                  try simp only [List.getElem_toArray, List.getElem_cons_succ, List.getElem_cons_zero]
                  try simp only [Act.put, List.setIfInBounds_toArray, List.set_cons_zero, List.set_cons_succ]
                  refine wpAnyH_take (i := 4) (v := ?_) rfl (by kernel_rfl) (by kernel_rfl) (by kernel_rfl) (fun _ _ _ h => h) (Or.inl ⟨by rfl, ?_⟩) (by assumption) ?_
                  rotate_left 1
                  · intro w hSw
                    try dsimp only at hSw
                    go_simp
                    try with_reducible rfl
                  try simp only [List.getElem_toArray, List.getElem_cons_succ, List.getElem_cons_zero]
                  try simp only [Act.put, List.setIfInBounds_toArray, List.set_cons_zero, List.set_cons_succ]
                  refine wpAnyH_ready (rs := [1, 5]) (by kernel_rfl) (by simp) ?_
                  refine AllReadyH.cons (o := _) rfl (fun K' hK => ?_) ?_
                  · have b9c1 := b9.c1
                    go_simp
                    refine hK.out _ _ ?_ (fun hHeld => ?_)
                    · exact trivial
                    clear hK K'
                    try simp only [Act.put, List.setIfInBounds_toArray, List.set_cons_zero, List.set_cons_succ]
                    clear b9c1
                    refine wpAnyH_ready (rs := [5]) (by kernel_rfl) (by simp) ?_
                    refine AllReadyH.cons (o := _) rfl (fun K' hK => ?_) AllReadyH.nil
                    go_simp
                    refine (HRV.out _).mono ?_
                    rintro e9 wk1 ⟨z, rfl, hz, c6⟩
                    have HZV := Lib.hid hz
                    clear hz
                    replace b9 := b9.keep0 c6
                    replace hown := hown.keep0 c6
                    replace hKv := hKv.keep0 c6
                    replace hU := hU.keep0 c6
                    replace b8 := b8.keep0 c6
                    replace x3 := x3.keep0 c6
                    replace x2 := x2.keep0 c6
                    replace hcz := hcz.then c6
                    replace hcy := hcy.then c6
                    clear c6
                    go_wp2_with fail
                    refine hK.out _ _ ?_ (fun hHeld => ?_)
                    · exact trivial
                    clear hK K'
                    try simp only [Act.put, List.setIfInBounds_toArray, List.set_cons_zero, List.set_cons_succ]
                    refine wpAnyH_take (i := 6) (v := ?_) rfl (by kernel_rfl) (by kernel_rfl) (by kernel_rfl) (fun _ _ _ h => h) (Or.inl ⟨by rfl, ?_⟩) (by assumption) ?_
                    rotate_left 1
                    · intro w hSw
                      try dsimp only at hSw
                      go_simp
                      try with_reducible rfl
                    try simp only [List.getElem_toArray, List.getElem_cons_succ, List.getElem_cons_zero]
                    try simp only [Act.put, List.setIfInBounds_toArray, List.set_cons_zero, List.set_cons_succ]
                    refine wpAnyH_ready (rs := [7]) (by kernel_rfl) (by simp) ?_
                    refine AllReadyH.cons (o := _) rfl (fun K' hK => ?_) AllReadyH.nil
                    go_simp
                    refine hK.out _ _ ?_ (fun hHeld => ?_)
                    · exact trivial
                    clear hK K'
                    try simp only [Act.put, List.setIfInBounds_toArray, List.set_cons_zero, List.set_cons_succ]
                    have hsrc := sStk_new wk1 ⟨(a : Int), (c : Int), z⟩
                    have c9 : Chg [] wk1 (wk1.alloc (.cells #[.int .i64 (a : Int), .int .i64 (c : Int), .bool z.neg, .string z.num, .string z.den] 36)) := (Chg.refl _ _).alloc _
                    replace b9 := b9.keep0 c9
                    replace hown := hown.keep0 c9
                    replace hKv := hKv.keep0 c9
                    replace hU := hU.keep0 c9
                    replace b8 := b8.keep0 c9
                    replace x3 := x3.keep0 c9
                    replace x2 := x2.keep0 c9
                    replace hcz := hcz.then c9
                    replace hcy := hcy.then c9
                    clear c9
                    obtain ⟨wq2, HWwq2⟩ := name_it (wk1.alloc (.cells #[.int .i64 (a : Int), .int .i64 (c : Int), .bool z.neg, .string z.num, .string z.den] 36))
                    obtain ⟨gS, HGgS⟩ := name_it wk1.heap.size
                    rw [HWwq2.out] at b9 hown hKv hU b8 x3 x2 hsrc hcz hcy ⊢
                    rw [HGgS.out] at hsrc ⊢
                    refine wpAnyH_ready (rs := [8]) (by kernel_rfl) (by simp) ?_
                    refine AllReadyH.cons (o := _) rfl (fun K' hK => ?_) AllReadyH.nil
                    have hbg := b9.lt
                    refine step_appendStk _ (by rfl) _ _ (by rfl) (.slice A1 sl cp1) S (by rfl) hown _ 1 ⟨(a : Int), (c : Int), z⟩ (by rfl) hsrc (by rw [HSL.out]; omega) ?_
                    intro v5 wa3 own5 cv5 hv5
                    obtain ⟨A5, l5, cp5, rfl⟩ : ∃ A l c, v5 = .slice A l c := by obtain ⟨A, c, h, _⟩ := own5.rds; exact ⟨A, _, c, h⟩
                    replace b9 := b9.keep cv5 (fun hm => by have := HBK2.out _ hm; omega)
                    replace b8 := b8.keep cv5 (fun hm => by have := HBK2.out _ hm; omega)
                    replace hU := hU.keep cv5 (fun hm => by have := HBK2.out _ hm; omega)
                    replace hKv := hKv.keep cv5 (OffV.of fun k hk hm => by have := HBK2.out _ hm; have := HKB.out k hk; omega)
                    replace x3 := x3.keepL HL3.out cv5 (fun y hy => by have := HBK2.out y hy; omega)
                    replace x2 := x2.keepL HL2.out cv5 (fun y hy => by have := HBK2.out y hy; omega)
                    replace hcz := hcz.trans cv5 (fun x hx => .inr (by have := HBK2.out x hx; omega))
                    have HB5 : Hid (∀ x ∈ (Value.slice A5 l5 cp5).ownBlock.toList, B1 ≤ x) := Lib.hid fun x hx => by
                      rcases hv5 with h5 | h5
                      · rw [h5] at hx; exact HBK2.out x hx
                      · rw [h5] at hx; simp at hx; have := hcy.size; omega
                    have hB5 : B1 ≤ wa3.heap.size := by have := cv5.size; have := hcy.size; omega
                    clear cv5 hv5 hsrc hown hcy
                    refine hK.out _ _ ?_ (fun hHeld => ?_)
                    · exact trivial
                    clear hK K'
                    try simp only [Act.put, List.setIfInBounds_toArray, List.set_cons_zero, List.set_cons_succ]
                    refine wpAnyH_take (i := 9) (v := ?_) rfl (by kernel_rfl) (by kernel_rfl) (by kernel_rfl) (fun _ _ _ h => h) (Or.inl ⟨by rfl, ?_⟩) (by assumption) ?_
                    rotate_left 1
                    · intro w hSw
                      try dsimp only at hSw
                      go_simp
                      try with_reducible rfl
                    try simp only [List.getElem_toArray, List.getElem_cons_succ, List.getElem_cons_zero]
                    try simp only [Act.put, List.setIfInBounds_toArray, List.set_cons_zero, List.set_cons_succ]
                    refine wpAnyH_ready (rs := [10]) (by kernel_rfl) (by simp) ?_
                    refine AllReadyH.cons (o := _) rfl (fun K' hK => ?_) AllReadyH.nil
                    have b9c1 := b9.c1
                    have b9f1 := b9.f1
                    go_simp
                    refine hK.out _ _ ?_ (fun hHeld => ?_)
                    · exact trivial
                    clear hK K'
                    try simp only [Act.put, List.setIfInBounds_toArray, List.set_cons_zero, List.set_cons_succ]
                    clear b9c1 b9f1
                    refine wpAnyH_done (by kernel_rfl) ?_ _
                    have hcn : Chg [g0 + 1] wa3 (wa3.setCell ⟨g0 + 1, 1, none⟩ (.slice A5 l5 cp5)) := (Chg.refl [g0 + 1] _).setCell (p := ⟨g0 + 1, 1, none⟩) (.inl (by simp)) _
                    have b9T := b9.sto1c (.slice A5 l5 cp5)
                    have b8T := b8.keep hcn (by simp)
                    have hUT := hU.keep hcn (by simp)
                    have hOT := own5.keep hcn (OffV.of fun y hy hm => by simp at hm; have := HB5.out y hy; omega)
                    have hKT := hKv.keep hcn (OffV.of fun y hy hm => by simp at hm; have := HBK.out y hy; omega)
                    have x3T := x3.keepL HL3.out hcn (fun y hy => by simp at hy; omega)
                    have x2T := x2.keepL HL2.out hcn (fun y hy => by simp at hy; omega)
                    have hchT := hcz.setCell (p := ⟨g0 + 1, 1, none⟩) (.inr (show w.heap.size ≤ g0 + 1 by omega)) (.slice A5 l5 cp5)
                    have hBT : B1 ≤ (wa3.setCell ⟨g0 + 1, 1, none⟩ (.slice A5 l5 cp5)).heap.size := by rw [World.size_setCell]; exact hB5
                    have HS21 : Hid ((S ++ [(⟨(a : Int), (c : Int), z⟩ : Stk)]).length ≤ 20) := Lib.hid (by rw [List.length_append, HSL.out]; have := HSLT.out; simp; omega)
                    have HAD2 := Lib.hid (HADD.out z HZV.out)
                    clear own5 hKv b9 b8 hU x3 x2 hcz hcn hB5
                    go_wp2_with fail
                    go_roundw
                    case rel => exact ⟨j + 1, _, _, _, by omega, by go_num, HAD2.out, HS21.out, hOT, HB5.out, hKT, b9T, hUT, b8T, x3T, x2T, hBT, hchT⟩
                    case measure => simp [intOf]; omega
                  refine AllReadyH.cons (o := _) rfl (fun K' hK => ?_) AllReadyH.nil
                  go_simp
                  refine (HRV.out _).mono ?_
                  rintro e9 wk4 ⟨z, rfl, hz, c6⟩
                  have HZV := Lib.hid hz
                  clear hz
                  replace b9 := b9.keep0 c6
                  replace hown := hown.keep0 c6
                  replace hKv := hKv.keep0 c6
                  replace hU := hU.keep0 c6
                  replace b8 := b8.keep0 c6
                  replace x3 := x3.keep0 c6
                  replace x2 := x2.keep0 c6
                  replace hcz := hcz.then c6
                  replace hcy := hcy.then c6
                  clear c6
                  go_wp2_with fail
                  refine hK.out _ _ ?_ (fun hHeld => ?_)
                  · exact trivial
                  clear hK K'
                  try simp only [Act.put, List.setIfInBounds_toArray, List.set_cons_zero, List.set_cons_succ]
                  refine wpAnyH_take (i := 6) (v := ?_) rfl (by kernel_rfl) (by kernel_rfl) (by kernel_rfl) (fun _ _ _ h => h) (Or.inl ⟨by rfl, ?_⟩) (by assumption) ?_
                  rotate_left 1
                  · intro w hSw
                    try dsimp only at hSw
                    go_simp
                    try with_reducible rfl
                  try simp only [List.getElem_toArray, List.getElem_cons_succ, List.getElem_cons_zero]
                  try simp only [Act.put, List.setIfInBounds_toArray, List.set_cons_zero, List.set_cons_succ]
                  refine wpAnyH_ready (rs := [1, 7]) (by kernel_rfl) (by simp) ?_
                  refine AllReadyH.cons (o := _) rfl (fun K' hK => ?_) ?_
                  · have b9c1 := b9.c1
                    go_simp
                    refine hK.out _ _ ?_ (fun hHeld => ?_)
                    · exact trivial
                    clear hK K'
                    try simp only [Act.put, List.setIfInBounds_toArray, List.set_cons_zero, List.set_cons_succ]
                    clear b9c1
                    refine wpAnyH_ready (rs := [7]) (by kernel_rfl) (by simp) ?_
                    refine AllReadyH.cons (o := _) rfl (fun K' hK => ?_) AllReadyH.nil
                    go_simp
                    refine hK.out _ _ ?_ (fun hHeld => ?_)
                    · exact trivial
                    clear hK K'
                    try simp only [Act.put, List.setIfInBounds_toArray, List.set_cons_zero, List.set_cons_succ]
                    have hsrc := sStk_new wk4 ⟨(a : Int), (c : Int), z⟩
                    have c9 : Chg [] wk4 (wk4.alloc (.cells #[.int .i64 (a : Int), .int .i64 (c : Int), .bool z.neg, .string z.num, .string z.den] 36)) := (Chg.refl _ _).alloc _
                    replace b9 := b9.keep0 c9
                    replace hown := hown.keep0 c9
                    replace hKv := hKv.keep0 c9
                    replace hU := hU.keep0 c9
                    replace b8 := b8.keep0 c9
                    replace x3 := x3.keep0 c9
                    replace x2 := x2.keep0 c9
                    replace hcz := hcz.then c9
                    replace hcy := hcy.then c9
                    clear c9
                    obtain ⟨wq5, HWwq5⟩ := name_it (wk4.alloc (.cells #[.int .i64 (a : Int), .int .i64 (c : Int), .bool z.neg, .string z.num, .string z.den] 36))
                    obtain ⟨gS, HGgS⟩ := name_it wk4.heap.size
                    rw [HWwq5.out] at b9 hown hKv hU b8 x3 x2 hsrc hcz hcy ⊢
                    rw [HGgS.out] at hsrc ⊢
                    refine wpAnyH_ready (rs := [8]) (by kernel_rfl) (by simp) ?_
                    refine AllReadyH.cons (o := _) rfl (fun K' hK => ?_) AllReadyH.nil
                    have hbg := b9.lt
                    refine step_appendStk _ (by rfl) _ _ (by rfl) (.slice A1 sl cp1) S (by rfl) hown _ 1 ⟨(a : Int), (c : Int), z⟩ (by rfl) hsrc (by rw [HSL.out]; omega) ?_
                    intro v5 wa6 own5 cv5 hv5
                    obtain ⟨A5, l5, cp5, rfl⟩ : ∃ A l c, v5 = .slice A l c := by obtain ⟨A, c, h, _⟩ := own5.rds; exact ⟨A, _, c, h⟩
                    replace b9 := b9.keep cv5 (fun hm => by have := HBK2.out _ hm; omega)
                    replace b8 := b8.keep cv5 (fun hm => by have := HBK2.out _ hm; omega)
                    replace hU := hU.keep cv5 (fun hm => by have := HBK2.out _ hm; omega)
                    replace hKv := hKv.keep cv5 (OffV.of fun k hk hm => by have := HBK2.out _ hm; have := HKB.out k hk; omega)
                    replace x3 := x3.keepL HL3.out cv5 (fun y hy => by have := HBK2.out y hy; omega)
                    replace x2 := x2.keepL HL2.out cv5 (fun y hy => by have := HBK2.out y hy; omega)
                    replace hcz := hcz.trans cv5 (fun x hx => .inr (by have := HBK2.out x hx; omega))
                    have HB5 : Hid (∀ x ∈ (Value.slice A5 l5 cp5).ownBlock.toList, B1 ≤ x) := Lib.hid fun x hx => by
                      rcases hv5 with h5 | h5
                      · rw [h5] at hx; exact HBK2.out x hx
                      · rw [h5] at hx; simp at hx; have := hcy.size; omega
                    have hB5 : B1 ≤ wa6.heap.size := by have := cv5.size; have := hcy.size; omega
                    clear cv5 hv5 hsrc hown hcy
                    refine hK.out _ _ ?_ (fun hHeld => ?_)
                    · exact trivial
                    clear hK K'
                    try simp only [Act.put, List.setIfInBounds_toArray, List.set_cons_zero, List.set_cons_succ]
                    refine wpAnyH_take (i := 9) (v := ?_) rfl (by kernel_rfl) (by kernel_rfl) (by kernel_rfl) (fun _ _ _ h => h) (Or.inl ⟨by rfl, ?_⟩) (by assumption) ?_
                    rotate_left 1
                    · intro w hSw
                      try dsimp only at hSw
                      go_simp
                      try with_reducible rfl
                    try simp only [List.getElem_toArray, List.getElem_cons_succ, List.getElem_cons_zero]
                    try simp only [Act.put, List.setIfInBounds_toArray, List.set_cons_zero, List.set_cons_succ]
                    refine wpAnyH_ready (rs := [10]) (by kernel_rfl) (by simp) ?_
                    refine AllReadyH.cons (o := _) rfl (fun K' hK => ?_) AllReadyH.nil
                    have b9c1 := b9.c1
                    have b9f1 := b9.f1
                    go_simp
                    refine hK.out _ _ ?_ (fun hHeld => ?_)
                    · exact trivial
                    clear hK K'
                    try simp only [Act.put, List.setIfInBounds_toArray, List.set_cons_zero, List.set_cons_succ]
                    clear b9c1 b9f1
                    refine wpAnyH_done (by kernel_rfl) ?_ _
                    have hcn : Chg [g0 + 1] wa6 (wa6.setCell ⟨g0 + 1, 1, none⟩ (.slice A5 l5 cp5)) := (Chg.refl [g0 + 1] _).setCell (p := ⟨g0 + 1, 1, none⟩) (.inl (by simp)) _
                    have b9T := b9.sto1c (.slice A5 l5 cp5)
                    have b8T := b8.keep hcn (by simp)
                    have hUT := hU.keep hcn (by simp)
                    have hOT := own5.keep hcn (OffV.of fun y hy hm => by simp at hm; have := HB5.out y hy; omega)
                    have hKT := hKv.keep hcn (OffV.of fun y hy hm => by simp at hm; have := HBK.out y hy; omega)
                    have x3T := x3.keepL HL3.out hcn (fun y hy => by simp at hy; omega)
                    have x2T := x2.keepL HL2.out hcn (fun y hy => by simp at hy; omega)
                    have hchT := hcz.setCell (p := ⟨g0 + 1, 1, none⟩) (.inr (show w.heap.size ≤ g0 + 1 by omega)) (.slice A5 l5 cp5)
                    have hBT : B1 ≤ (wa6.setCell ⟨g0 + 1, 1, none⟩ (.slice A5 l5 cp5)).heap.size := by rw [World.size_setCell]; exact hB5
                    have HS21 : Hid ((S ++ [(⟨(a : Int), (c : Int), z⟩ : Stk)]).length ≤ 20) := Lib.hid (by rw [List.length_append, HSL.out]; have := HSLT.out; simp; omega)
                    have HAD2 := Lib.hid (HADD.out z HZV.out)
                    clear own5 hKv b9 b8 hU x3 x2 hcz hcn hB5
                    go_wp2_with fail
                    go_roundw
                    case rel => exact ⟨j + 1, _, _, _, by omega, by go_num, HAD2.out, HS21.out, hOT, HB5.out, hKT, b9T, hUT, b8T, x3T, x2T, hBT, hchT⟩
                    case measure => simp [intOf]; omega
                  refine AllReadyH.cons (o := _) rfl (fun K' hK => ?_) AllReadyH.nil
                  go_simp
                  refine hK.out _ _ ?_ (fun hHeld => ?_)
                  · exact trivial
                  clear hK K'
                  try simp only [Act.put, List.setIfInBounds_toArray, List.set_cons_zero, List.set_cons_succ]
                  have hsrc := sStk_new wk4 ⟨(a : Int), (c : Int), z⟩
                  have c9 : Chg [] wk4 (wk4.alloc (.cells #[.int .i64 (a : Int), .int .i64 (c : Int), .bool z.neg, .string z.num, .string z.den] 36)) := (Chg.refl _ _).alloc _
                  replace b9 := b9.keep0 c9
                  replace hown := hown.keep0 c9
                  replace hKv := hKv.keep0 c9
                  replace hU := hU.keep0 c9
                  replace b8 := b8.keep0 c9
                  replace x3 := x3.keep0 c9
                  replace x2 := x2.keep0 c9
                  replace hcz := hcz.then c9
                  replace hcy := hcy.then c9
                  clear c9
                  obtain ⟨wq7, HWwq7⟩ := name_it (wk4.alloc (.cells #[.int .i64 (a : Int), .int .i64 (c : Int), .bool z.neg, .string z.num, .string z.den] 36))
                  obtain ⟨gS, HGgS⟩ := name_it wk4.heap.size
                  rw [HWwq7.out] at b9 hown hKv hU b8 x3 x2 hsrc hcz hcy ⊢
                  rw [HGgS.out] at hsrc ⊢
                  refine wpAnyH_ready (rs := [1]) (by kernel_rfl) (by simp) ?_
                  refine AllReadyH.cons (o := _) rfl (fun K' hK => ?_) AllReadyH.nil
                  have b9c1 := b9.c1
                  go_simp
                  refine hK.out _ _ ?_ (fun hHeld => ?_)
                  · exact trivial
                  clear hK K'
                  try simp only [Act.put, List.setIfInBounds_toArray, List.set_cons_zero, List.set_cons_succ]
                  clear b9c1
                  refine wpAnyH_ready (rs := [8]) (by kernel_rfl) (by simp) ?_
                  refine AllReadyH.cons (o := _) rfl (fun K' hK => ?_) AllReadyH.nil
                  have hbg := b9.lt
                  refine step_appendStk _ (by rfl) _ _ (by rfl) (.slice A1 sl cp1) S (by rfl) hown _ 1 ⟨(a : Int), (c : Int), z⟩ (by rfl) hsrc (by rw [HSL.out]; omega) ?_
                  intro v5 wa8 own5 cv5 hv5
                  obtain ⟨A5, l5, cp5, rfl⟩ : ∃ A l c, v5 = .slice A l c := by obtain ⟨A, c, h, _⟩ := own5.rds; exact ⟨A, _, c, h⟩
                  replace b9 := b9.keep cv5 (fun hm => by have := HBK2.out _ hm; omega)
                  replace b8 := b8.keep cv5 (fun hm => by have := HBK2.out _ hm; omega)
                  replace hU := hU.keep cv5 (fun hm => by have := HBK2.out _ hm; omega)
                  replace hKv := hKv.keep cv5 (OffV.of fun k hk hm => by have := HBK2.out _ hm; have := HKB.out k hk; omega)
                  replace x3 := x3.keepL HL3.out cv5 (fun y hy => by have := HBK2.out y hy; omega)
                  replace x2 := x2.keepL HL2.out cv5 (fun y hy => by have := HBK2.out y hy; omega)
                  replace hcz := hcz.trans cv5 (fun x hx => .inr (by have := HBK2.out x hx; omega))
                  have HB5 : Hid (∀ x ∈ (Value.slice A5 l5 cp5).ownBlock.toList, B1 ≤ x) := Lib.hid fun x hx => by
                    rcases hv5 with h5 | h5
                    · rw [h5] at hx; exact HBK2.out x hx
                    · rw [h5] at hx; simp at hx; have := hcy.size; omega
                  have hB5 : B1 ≤ wa8.heap.size := by have := cv5.size; have := hcy.size; omega
                  clear cv5 hv5 hsrc hown hcy
                  refine hK.out _ _ ?_ (fun hHeld => ?_)
                  · exact trivial
                  clear hK K'
                  try simp only [Act.put, List.setIfInBounds_toArray, List.set_cons_zero, List.set_cons_succ]
                  refine wpAnyH_take (i := 9) (v := ?_) rfl (by kernel_rfl) (by kernel_rfl) (by kernel_rfl) (fun _ _ _ h => h) (Or.inl ⟨by rfl, ?_⟩) (by assumption) ?_
                  rotate_left 1
                  · intro w hSw
                    try dsimp only at hSw
                    go_simp
                    try with_reducible rfl
                  try simp only [List.getElem_toArray, List.getElem_cons_succ, List.getElem_cons_zero]
                  try simp only [Act.put, List.setIfInBounds_toArray, List.set_cons_zero, List.set_cons_succ]
                  refine wpAnyH_ready (rs := [10]) (by kernel_rfl) (by simp) ?_
                  refine AllReadyH.cons (o := _) rfl (fun K' hK => ?_) AllReadyH.nil
                  have b9c1 := b9.c1
                  have b9f1 := b9.f1
                  go_simp
                  refine hK.out _ _ ?_ (fun hHeld => ?_)
                  · exact trivial
                  clear hK K'
                  try simp only [Act.put, List.setIfInBounds_toArray, List.set_cons_zero, List.set_cons_succ]
                  clear b9c1 b9f1
                  refine wpAnyH_done (by kernel_rfl) ?_ _
                  have hcn : Chg [g0 + 1] wa8 (wa8.setCell ⟨g0 + 1, 1, none⟩ (.slice A5 l5 cp5)) := (Chg.refl [g0 + 1] _).setCell (p := ⟨g0 + 1, 1, none⟩) (.inl (by simp)) _
                  have b9T := b9.sto1c (.slice A5 l5 cp5)
                  have b8T := b8.keep hcn (by simp)
                  have hUT := hU.keep hcn (by simp)
                  have hOT := own5.keep hcn (OffV.of fun y hy hm => by simp at hm; have := HB5.out y hy; omega)
                  have hKT := hKv.keep hcn (OffV.of fun y hy hm => by simp at hm; have := HBK.out y hy; omega)
                  have x3T := x3.keepL HL3.out hcn (fun y hy => by simp at hy; omega)
                  have x2T := x2.keepL HL2.out hcn (fun y hy => by simp at hy; omega)
                  have hchT := hcz.setCell (p := ⟨g0 + 1, 1, none⟩) (.inr (show w.heap.size ≤ g0 + 1 by omega)) (.slice A5 l5 cp5)
                  have hBT : B1 ≤ (wa8.setCell ⟨g0 + 1, 1, none⟩ (.slice A5 l5 cp5)).heap.size := by rw [World.size_setCell]; exact hB5
                  have HS21 : Hid ((S ++ [(⟨(a : Int), (c : Int), z⟩ : Stk)]).length ≤ 20) := Lib.hid (by rw [List.length_append, HSL.out]; have := HSLT.out; simp; omega)
                  have HAD2 := Lib.hid (HADD.out z HZV.out)
                  clear own5 hKv b9 b8 hU x3 x2 hcz hcn hB5
                  go_wp2_with fail
                  go_roundw
                  case rel => exact ⟨j + 1, _, _, _, by omega, by go_num, HAD2.out, HS21.out, hOT, HB5.out, hKT, b9T, hUT, b8T, x3T, x2T, hBT, hchT⟩
                  case measure => simp [intOf]; omega
              · have r1 : decide ((10 : Int) < si + vi) = true := decide_eq_true (by omega)
                clear h10
                go_wp2_with fail
                go_roundw
                case rel => exact ⟨j + 1, _, S, sm, by omega, by go_num, HBS.out, (by rw [HSL.out]; exact hS20), hown, HBK2.out, hKv, b9, hU, b8, x3, x2, hB2, hch⟩
                case measure => simp [intOf]; omega
        · obtain rfl : l3 = j := by omega
          obtain ⟨A1, cp1, hsv, -, hsc, hsc2, hsb⟩ := own_shapeS hown
          obtain ⟨sl, HSL⟩ := name_it S.length
          rw [HSL.out] at hsv hsc hS20
          subst hsv
          obtain ⟨B2, HB2⟩ := name_it wr.heap.size
          have hB2 : B2 ≤ wr.heap.size := Nat.le_of_eq HB2.out.symm
          have hB12 : B1 ≤ B2 := by rw [← HB2.out]; exact hB1
          have HSB : Hid (∀ x ∈ (Value.slice A1 sl cp1).ownBlock.toList, x < B2) := Lib.hid (by rw [← HB2.out]; exact hsb)
          have HCP : Hid (sl ≤ cp1 ∧ cp1 ≤ 9223372036854775807) := Lib.hid ⟨hsc, hsc2⟩
          have hg2b : g0 + 1 < B2 := by omega
          have hTN := OwnTi.nil wr
          clear hsb hU x3 hB1 hsc hsc2
          go_wp2_with fail
          go_loopw [119] (fun iv wr => ∃ (j2 : Nat) (tv : Value) (T : List Ti), j2 ≤ l2 ∧ iv = .int .i64 j2 ∧ T.length ≤ 6 ∧ tE Z T = false ∧ OwnTi wr tv T ∧ (∀ x ∈ tv.ownBlock.toList, B2 ≤ x) ∧ OwnStk wr (.slice A1 sl cp1) S ∧ OwnZn wr (.slice A0 Z cp0) K ∧ Blk3 wr (g0 + 1) (.slice A0 Z cp0) (.slice A1 sl cp1) tv ∧ Blk3 wr g0 (.slice none 0 0) (.slice none 0 0) (.slice none 0 0) ∧ ST2 wr A2 L2 ∧ B2 ≤ wr.heap.size ∧ Chg [] w wr) (fun iv _ => l2 - (intOf iv).toNat)
          case atStart => exact ⟨0, .slice none 0 0, [], Nat.zero_le _, rfl, by simp, rfl, hTN, by simp [Value.ownBlock], hown, hKv, b9, b8, x2, hB2, hch⟩
          case round =>
            clear hTN hown hKv b9 b8 x2 hB2 hch
            obtain ⟨j2, tv, T, hj2, rfl, hT6, hte, hot, htb, hown, hKv, b9, b8, x2, hB2, hch⟩ := hrel
            have HTE := Lib.hid hte
            have HTB := Lib.hid htb
            obtain ⟨A5, cp5, htv, -, htl, htb2⟩ := own_shapeT hot
            obtain ⟨tl, HTL⟩ := name_it T.length
            rw [HTL.out] at htv htl hT6
            subst htv
            clear hte htb
            by_cases hlt2 : j2 < l2
            · obtain ⟨g2, o2, rfl, hgl2⟩ := x2.form (by rw [H2.out]; exact Nat.lt_of_le_of_lt (Nat.zero_le _) hlt2)
              have hcx := x2.at_ (j := j2) (by rw [H2.out]; exact hlt2)
              have hin := HI2.out _ (memT2 (l := L2) (j := j2) (by rw [H2.out]; exact hlt2))
              obtain ⟨t, HT⟩ := name_it (L2.getD j2 t20)
              rw [HT.out] at hcx hin
              obtain ⟨ta, HTA⟩ := name_it t.a
              obtain ⟨tb, HTBB⟩ := name_it t.b
              obtain ⟨ia1, ia2, ib1, ib2⟩ := hin
              rw [HTA.out] at ia1 ia2
              rw [HTBB.out] at ib1 ib2
              obtain ⟨a0, a1, -⟩ := hcx
              rw [HTA.out] at a0
              rw [HTBB.out] at a1
              obtain ⟨a, HA⟩ : ∃ a : Nat, Hid (ta % (Z : Int) = (a : Int)) := ⟨(ta % (Z : Int)).toNat, Lib.hid (by have := Int.emod_nonneg ta (show (Z : Int) ≠ 0 by omega); omega)⟩
              obtain ⟨c, HC⟩ : ∃ c : Nat, Hid (tb % (Z : Int) = (c : Int)) := ⟨(tb % (Z : Int)).toNat, Lib.hid (by have := Int.emod_nonneg tb (show (Z : Int) ≠ 0 by omega); omega)⟩
              have haz : a < Z := by have := Int.emod_lt_of_pos ta (show (0 : Int) < Z by omega); have := HA.out; omega
              have hcz1 : c < Z := by have := Int.emod_lt_of_pos tb (show (0 : Int) < Z by omega); have := HC.out; omega
              have e1 : ta.tmod (Z : Int) = (a : Int) := by rw [Int.tmod_eq_emod_of_nonneg ia1]; exact HA.out
              have e2 : tb.tmod (Z : Int) = (c : Int) := by rw [Int.tmod_eq_emod_of_nonneg ib1]; exact HC.out
              have z0 : ((Z : Int) == 0) = false := by simp; omega
              have z0n : ¬ (Z : Int) = 0 := by omega
              have z0m : ¬ Z = 0 := by omega
              have c4 : Chg [] wr (wr.alloc (.cells #[.int .u16 ta, .int .u16 tb] 81)) := (Chg.refl _ _).alloc _
              have b15 := BlkTi.alloc wr (.int .u16 ta) (.int .u16 tb) 81
              replace hot := hot.keep0 c4
              replace hown := hown.keep0 c4
              replace hKv := hKv.keep0 c4
              replace b9 := b9.keep0 c4
              replace b8 := b8.keep0 c4
              replace x2 := x2.keep0 c4
              have hB3 : B2 ≤ (wr.alloc (.cells #[.int .u16 ta, .int .u16 tb] 81)).heap.size := Nat.le_trans hB2 c4.size
              replace hch := hch.then c4
              clear c4 hB2
              have j1 : (0 : Int) ≤ (j2 : Int) := by omega
              have j2' : (j2 : Int) < (l2 : Int) := by omega
              have b15c0 := b15.c0
              have b15c1 := b15.c1
              go_wp2_with fail
              obtain ⟨w5, HW5⟩ := name_it (wr.alloc (.cells #[.int .u16 ta, .int .u16 tb] 81))
              obtain ⟨g15, HG15⟩ := name_it wr.heap.size
              rw [HW5.out] at hot hown hKv b9 b8 x2 hB3 hch b15 b15c0 b15c1 ⊢
              rw [HG15.out] at b15 b15c0 b15c1 ⊢
              clear a0 a1 HW5 HG15
              go_quiet (fail)
              have c8 : Chg [] w5 (w5.drewN nq) := (Chg.refl _ _).drewN _
              replace hot := hot.keep0 c8
              replace hown := hown.keep0 c8
              replace hKv := hKv.keep0 c8
              replace b9 := b9.keep0 c8
              replace b8 := b8.keep0 c8
              replace x2 := x2.keep0 c8
              replace hB3 := Nat.le_trans hB3 c8.size
              replace hch := hch.then c8
              clear c8 b15 b15c0 b15c1 e1 e2 z0 z0n z0m
              obtain ⟨w6, HW6⟩ := name_it (w5.drewN nq)
              rw [HW6.out] at hot hown hKv b9 b8 x2 hB3 hch ⊢
              clear HW6
              have b9c2 := b9.c2
              by_cases hac : a = c
              · subst hac
                go_wp2_with fail
                go_roundw
                case rel => exact ⟨j2 + 1, _, T, by omega, by go_num, by rw [HTL.out]; exact hT6, HTE.out, hot, HTB.out, hown, hKv, b9, b8, x2, hB3, hch⟩
                case measure => simp [intOf]; omega
              · have q1 : ((a : Int) == (c : Int)) = false := by simp; omega
                have q2 : (a == c) = false := by simp [hac]
                have q3 : ¬ (a : Int) = (c : Int) := by omega
                by_cases h6 : tl < 6
                · have r1 : decide ((tl : Int) < 6) = true := decide_eq_true (by omega)
                  have HTW : Hid (twoB Z (a : Int) (c : Int) = true) := Lib.hid (twoB_iff.2 ⟨inB_of haz, inB_of hcz1, q3⟩)
                  have HT61 : Hid ((T ++ [(⟨(a : Int), (c : Int)⟩ : Ti)]).length ≤ 6) := Lib.hid (by rw [List.length_append, HTL.out]; simp; omega)
                  have HTE2 : Hid (tE Z (T ++ [(⟨(a : Int), (c : Int)⟩ : Ti)]) = false) := Lib.hid (tE_snoc HTE.out HTW.out)
                  have c4 : Chg [] w6 (w6.alloc (.cells #[.int .i64 (a : Int), .int .i64 (c : Int)] 38)) := (Chg.refl _ _).alloc _
                  have hO := hot.keep0 c4
                  have b9a := b9.keep0 c4
                  have b9ac2 := b9a.c2
                  have b9af2 := b9a.f2
                  have b9f2 := b9.f2
                  have b9l := b9.lt
                  have b8a := b8.keep0 c4
                  have hownA := hown.keep0 c4
                  have hKvA := hKv.keep0 c4
                  have x2a := x2.keep0 c4
                  have hcha := hch.then c4
                  have hB4 := Nat.le_trans hB3 c4.size
                  clear h6
                  go_wp2_with (at_builtin; refine wpList_appendTi _ rfl (.tmp 143) (.tmp 147) rfl _ T rfl hO _ 1 ⟨(a : Int), (c : Int)⟩ rfl (sTi_new _ ⟨(a : Int), (c : Int)⟩) (by rw [HTL.out]; omega) ?_)
                  intro v7 w7 own7 cv7 hv7
                  obtain ⟨A7, l7, cp7, rfl⟩ : ∃ A l c, v7 = .slice A l c := by obtain ⟨A, c, h, _⟩ := own7.rds; exact ⟨A, _, c, h⟩
                  have HB7 : Hid (∀ x ∈ (Value.slice A7 l7 cp7).ownBlock.toList, B2 ≤ x) := Lib.hid fun x hx => by
                    rcases hv7 with h5 | h5
                    · rw [h5] at hx; exact HTB.out x hx
                    · rw [h5] at hx; simp at hx; omega
                  have b97 := b9a.keep cv7 (fun hm => by have := HTB.out _ hm; omega)
                  have b87 := b8a.keep cv7 (fun hm => by have := HTB.out _ hm; omega)
                  have hown7 := hownA.keep cv7 (OffV.of fun y hy hm => by have := HTB.out y hm; have := HSB.out y hy; omega)
                  have hKv7 := hKvA.keep cv7 (OffV.of fun y hy hm => by have := HTB.out y hm; have := HKB.out y hy; omega)
                  have x27 := x2a.keepL HL2.out cv7 (fun y hy => by have := HTB.out y hy; omega)
                  have hch7 := hcha.trans cv7 (fun y hy => .inr (by have := HTB.out y hy; omega))
                  have hB7 := Nat.le_trans hB4 cv7.size
                  have hcn : Chg [g0 + 1] w7 (w7.setCell ⟨g0 + 1, 2, none⟩ (.slice A7 l7 cp7)) := (Chg.refl [g0 + 1] _).setCell (p := ⟨g0 + 1, 2, none⟩) (.inl (by simp)) _
                  have b9S := b97.sto2 (.slice A7 l7 cp7)
                  have b8S := b87.keep hcn (by simp)
                  have hownS := hown7.keep hcn (OffV.of fun y hy hm => by simp at hm; have := HBK2.out y hy; omega)
                  have hKvS := hKv7.keep hcn (OffV.of fun y hy hm => by simp at hm; have := HBK.out y hy; omega)
                  have hotS := own7.keep hcn (OffV.of fun y hy hm => by simp at hm; have := HB7.out y hy; omega)
                  have x2S := x27.keepL HL2.out hcn (fun y hy => by simp at hy; omega)
                  have hchS := hch7.setCell (p := ⟨g0 + 1, 2, none⟩) (.inr (show w.heap.size ≤ g0 + 1 by omega)) (.slice A7 l7 cp7)
                  have hBS := Nat.le_trans hB7 hcn.size
                  have b97c2 := b97.c2
                  have b97f2 := b97.f2
                  clear own7 cv7 hv7 b97 b87 hown7 hKv7 x27 hch7 hB7 hcn hO b9a b9ac2 b9af2 b9c2 b9f2 b8a hownA hKvA x2a hcha hB4 c4 hot hown hKv b9 b8 x2 hB3 hch htb2
                  go_wp2_with fail
                  go_roundw
                  case rel => exact ⟨j2 + 1, _, _, by omega, by go_num, HT61.out, HTE2.out, hotS, HB7.out, hownS, hKvS, b9S, b8S, x2S, hBS, hchS⟩
                  case measure => simp [intOf]; omega
                · have r1 : decide ((tl : Int) < 6) = false := decide_eq_false (by omega)
                  clear h6
                  go_wp2_with fail
                  go_roundw
                  case rel => exact ⟨j2 + 1, _, T, by omega, by go_num, by rw [HTL.out]; exact hT6, HTE.out, hot, HTB.out, hown, hKv, b9, b8, x2, hB3, hch⟩
                  case measure => simp [intOf]; omega
            · obtain rfl : l2 = j2 := by omega
              have hcn : Chg [g0] _ _ := (Chg.refl [g0] wr).store3 (g := g0) (.inl (by simp)) (.slice A0 Z cp0) (.slice A1 sl cp1) (.slice A5 tl cp5)
              have hownS := hown.keep hcn (OffV.of fun y hy hm => by simp at hm; have := HBK2.out y hy; omega)
              have hKvS := hKv.keep hcn (OffV.of fun y hy hm => by simp at hm; have := HBK.out y hy; omega)
              have hotS := hot.keep hcn (OffV.of fun y hy hm => by simp at hm; have := HTB.out y hy; omega)
              have S8 := b8.store (.slice A0 Z cp0) (.slice A1 sl cp1) (.slice A5 tl cp5)
              have hchS := hch.store3 (.inr (show w.heap.size ≤ g0 by omega)) (.slice A0 Z cp0) (.slice A1 sl cp1) (.slice A5 tl cp5)
              obtain ⟨A6, c6, h6, -, -, hKs⟩ := hKvS.rds
              simp only [Value.slice.injEq] at h6
              obtain ⟨rfl, -, rfl⟩ := h6
              obtain ⟨A6, c6, h6, -, -, hSs⟩ := hownS.rds
              simp only [Value.slice.injEq] at h6
              obtain ⟨rfl, -, rfl⟩ := h6
              obtain ⟨A6, c6, h6, -, -, hTs⟩ := hotS.rds
              simp only [Value.slice.injEq] at h6
              obtain ⟨rfl, -, rfl⟩ := h6
              have HAT : Hid (PV.At ⟨K, S, T, Z, sl, tl, A0, A1, A5, cp0, cp1, cp5⟩ _) := Lib.hid ⟨HKL.out, HSL.out, HTL.out, (by show Z ≤ 9223372036854775807; omega), (by show sl ≤ 9223372036854775807; omega), (by show tl ≤ 9223372036854775807; omega), hKs, hSs, hTs⟩
              have HGP : Hid (GoodP ⟨K, S, T, Z, sl, tl, A0, A1, A5, cp0, cp1, cp5⟩) := Lib.hid ⟨HBS.out.ck (by rw [HKL.out]; omega) (by rw [HSL.out]; omega) (by rw [HTL.out]; omega) HK2.out (by rw [HKL.out]; exact HTE.out), HBS.out.ft, (by show 2 ≤ Z; omega), (by show Z ≤ 7; omega), (by show sl ≤ 20; omega), (by show tl ≤ 6; omega), HCP.out.1, HCP.out.2⟩
              have b9c0 := b9.c0
              have b9c1 := b9.c1
              have b9c2 := b9.c2
              have b8c0 := b8.c0
              have b8c1 := b8.c1
              have b8c2 := b8.c2
              have b8f0 := b8.f0
              have b8f1 := b8.f1
              have b8f2 := b8.f2
              have b8l := b8.lt
              clear hcn hownS hKvS hotS hKs hSs hTs hot hown hKv b9 b8 x2 hB2 hch
              go_wp2_with fail
              exact bodyPost_ret (v := .agg #[.slice A0 Z cp0, .slice A1 sl cp1, .slice A5 tl cp5]) (by simp [results, Try.results26, go_sem, S8.c0, S8.c1, S8.c2]) rfl ⟨⟨K, S, T, Z, sl, tl, A0, A1, A5, cp0, cp1, cp5⟩, rfl, HAT.out, HGP.out, hchS⟩
end Go.Proofs.Ytgdpcpbmjgaliaa
