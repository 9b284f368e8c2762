/-
  The laws CalendarMany, CalendarSteps.
-/
import Derived.Test.YtfmbekdhkilflaaC10
namespace Go.Proofs.Ytfmbekdhkilflaa
open Go.RowKit Go.Sort

theorem valz_zeros (n : Nat) : vals .i64 (List.replicate n 0) = valz (List.replicate n 0) := by simp [vals, valz]
theorem row_rdz {w : World} {g cap n : Nat} (h : Row 3 .i64 w g cap (List.replicate n 0)) : RdZ w (some ⟨g, 0, none⟩) (List.replicate n 0) := by
  intro h0
  refine ⟨g, 0, rfl, h.lt, fun j hj => ?_⟩
  rw [List.length_replicate] at hj
  rw [Nat.zero_add, h.cell j (by rw [List.length_replicate]; exact hj)]
  simp [List.getD_eq_getElem?_getD, hj]
theorem zeros_in (n : Nat) : ∀ x, x ∈ (List.replicate n 0 : List Int) → I64 x := fun x hx => by
  rw [(List.mem_replicate.1 hx).2]; unfold I64; omega

/-- Next, early in the calendar. -/
theorem next_soon (zs : List Int) (d : Int) (l : Nat) (A : Option Addr) (cap : Nat) (w : World) (h1 : 0 ≤ d) (h2 : d ≤ 1990) (hl : zs.length = l) (hl2 : l ≤ 1000) (hz : ∀ x, x ∈ zs → I64 x) (hx : RdZ w A zs) :
    Calls Try.prog 18 #[.int .i64 d, .slice A l cap] w fun e w' => ∃ x, e = .returned (.tuple #[.int .i64 x, .int .i64 0]) ∧ Chg [] w w' :=
  (next_any zs d l A cap w ⟨by omega, by omega⟩ hl (by omega) hz hx).mono fun e w' ⟨a, c, he, hr, hc⟩ => by
    obtain ⟨v, hv, ho⟩ := hr.get (by omega) (decide_eq_true ⟨by omega, by omega⟩) (Int.le_refl 0) (by omega)
    obtain ⟨x, rfl, _⟩ := hv.soon (by omega) (by rw [if_pos rfl]; omega) (by rw [if_pos rfl]; omega) (by omega)
    obtain ⟨rfl, rfl⟩ := two_inj ho
    exact ⟨a, he, hc⟩

set_option maxRecDepth 20000 in
set_option maxHeartbeats 2000000 in
theorem lmany_any (n : Int) (w : World) (hn : 0 ≤ n ∧ n ≤ 65535) :
    Calls Try.prog 8 #[.int .u16 n] w fun e w' => e = .returned (.bool true) ∧ Chg [] w w' := by
  obtain ⟨n1, n2⟩ := hn
  have hch : Chg [] w w := Chg.refl _ _
  obtain ⟨iI, hiI, hzI0, hzI1, hzI2⟩ := info_split Try.infoInt
  obtain ⟨m, Hm⟩ : ∃ m : Nat, Hid (n % 2000 = (m : Int)) := ⟨(n % 2000).toNat, Lib.hid (by omega)⟩
  have m1 : m < 2000 := by have := Hm.out; omega
  have HIN := Lib.hid (zeros_in m)
  have H1 : Hid (I64 1 ∧ I64 3 ∧ I64 9 ∧ isd 1 = true ∧ isd 9 = true ∧ I64 0) := Lib.hid (by refine ⟨?_, ?_, ?_, by decide, by decide, ?_⟩ <;> (unfold I64; omega))
  have HLEN : Hid ((List.replicate m 0 : List Int).length = m) := Lib.hid List.length_replicate
  obtain ⟨zs, HZ⟩ := name_it (List.replicate m 0 : List Int)
  rw [HZ.out] at HIN HLEN
  go_enter Try.func8, Try.ntmps8
  go_upto_region 2 with (first
    | (at_make; rw [Hm.out]; refine wpList_make_cap _ rfl (.tmp 12) (.tmp 12) 25 rfl 3 iI .i64 Try.underlying25 hiI hzI0 hzI1 .i64 .i64 _ _ m m rfl rfl rfl rfl (Nat.le_refl _) (by rw [hzI2]; omega) (by omega) ?_; intro w1 hrow c1))
  have HR : Hid (RdZ w1 (some ⟨w.heap.size, 0, none⟩) zs) := Lib.hid (by rw [← HZ.out]; exact row_rdz hrow)
  clear hrow
  by_cases hlong : 1000 < m
  · have d1 : decide ((1000 : Int) < (m : Int)) = true := decide_eq_true (by omega)
    have HA : Hid (AddR zs 1 0 (two 0 2) ∧ AddR zs 1 3 (two 0 2) ∧ CountR zs 1 9 (two 0 2)) := Lib.hid (by
      have : 1000 < zs.length := by rw [HLEN.out]; exact hlong
      exact ⟨AddR.long this, AddR.long this, CountR.long this⟩)
    clear hlong
    go_wp2_with (first
      | (go_at_call 18; refine (next_is zs 1 0 2 m _ m _ H1.out.1 HLEN.out (by omega) HIN.out HR.out HA.out.1).mono ?_; rintro e w2 ⟨rfl, c2⟩)
      | (go_at_call 20; refine (add_is zs 1 3 0 2 m _ m _ H1.out.1 H1.out.2.1 HLEN.out (by omega) HIN.out (HR.out.keep0 c2) HA.out.2.1).mono ?_; rintro e w3 ⟨rfl, c3⟩)
      | (go_at_call 23; refine (count_any zs 1 9 m _ m _ HLEN.out (by omega) HIN.out ((HR.out.keep0 c2).keep0 c3)).mono ?_; rintro e w4 ⟨o, rfl, hr, c4⟩; obtain rfl := hr.unique HA.out.2.2; clear hr; unfold two)
      | (go_at_call 13; refine (awake_any _).mono ?_; rintro e w5 ⟨rfl, c5⟩))
    go_ret
    exact ⟨rfl, ((((hch.then c1).then c2).then c3).then c4).then c5⟩
  · have d1 : decide ((1000 : Int) < (m : Int)) = false := decide_eq_false (by omega)
    have m2 : m ≤ 1000 := by omega
    clear hlong
    go_wp2_with (first
      | (go_at_call 18; refine (next_soon zs 1 m _ m _ (by omega) (by omega) HLEN.out m2 HIN.out HR.out).mono ?_; rintro e w2 ⟨x, rfl, c2⟩)
      | (go_at_call 20; refine (add_soon zs 1 3 m _ m _ (by omega) (by omega) (by omega) (by omega) HLEN.out m2 HIN.out (HR.out.keep0 c2)).mono ?_; rintro e w3 ⟨y, rfl, hy, c3⟩; have HY := Lib.hid hy; clear hy)
      | (go_at_call 23; refine (count_is zs 1 9 m _ m _ (by omega) (by omega) (by omega) (by omega) HLEN.out m2 HIN.out ((HR.out.keep0 c2).keep0 c3)).mono ?_; rintro e w4 ⟨rfl, c4⟩)
      | (go_at_call 13; refine (awake_any _).mono ?_; rintro e w5 ⟨rfl, c5⟩))
    go_ret
    exact ⟨rfl, ((((hch.then c1).then c2).then c3).then c4).then c5⟩

/-- Two steps are one. -/
theorem steps_math {zs : List Int} {d x n m : Int} {v : Option Int} (hn : 1 ≤ n) (hm : 0 ≤ m) (hx1 : d + 1 ≤ x) (hx2 : x ≤ 1048576) (hb : bus zs x = true) (hc : cnt (bus zs) (d + 1) (x - (d + 1)).toNat = (n - 1).toNat)
    (hv : Nth zs (if m = 0 then x else x + 1) (m - 1).toNat v) : Nth zs (d + 1) (n + m - 1).toNat v := by
  by_cases h0 : m = 0
  · subst h0
    rw [if_pos rfl] at hv
    have : Nth zs x (0 - 1 : Int).toNat (some x) := ⟨Int.le_refl _, hx2, hb, by simp [cnt]⟩
    obtain rfl := this.unique hv
    exact ⟨hx1, hx2, hb, by rw [hc]; congr 1; omega⟩
  · rw [if_neg h0] at hv
    have e1 : cnt (bus zs) (d + 1) (x + 1 - (d + 1)).toNat = n.toNat := by
      rw [cnt_next (bus zs) (d + 1) x hx1, hb, hc]; simp; omega
    have add : ∀ y : Int, x + 1 ≤ y → cnt (bus zs) (d + 1) (y - (d + 1)).toNat = n.toNat + cnt (bus zs) (x + 1) (y - (x + 1)).toNat := fun y hy => by
      have := cnt_add (bus zs) (d + 1) (x + 1 - (d + 1)).toNat (y - (x + 1)).toNat
      rw [show (x + 1 - (d + 1)).toNat + (y - (x + 1)).toNat = (y - (d + 1)).toNat by omega, show d + 1 + (((x + 1 - (d + 1)).toNat : Nat) : Int) = x + 1 by omega, e1] at this
      exact this
    cases v with
    | none =>
      have hv : cnt (bus zs) (x + 1) (1048577 - (x + 1)).toNat ≤ (m - 1).toNat := hv
      show cnt (bus zs) (d + 1) (1048577 - (d + 1)).toNat ≤ (n + m - 1).toNat
      rw [add 1048577 (by omega)]; omega
    | some y =>
      obtain ⟨h1, h2, h3, h4⟩ := hv
      exact ⟨by omega, h2, h3, by rw [add y h1, h4]; omega⟩
theorem steps_add {zs : List Int} {d x n m : Int} {o : Value} (hl : zs.length ≤ 1000) (h1 : 0 ≤ d) (h2 : d ≤ 1048576) (hn : 1 ≤ n) (hm : 0 ≤ m) (hb2 : n + m ≤ 1048576) (hx1 : d + 1 ≤ x) (hx2 : x ≤ 1048576) (hb : bus zs x = true) (hc : cnt (bus zs) (d + 1) (x - (d + 1)).toNat = (n - 1).toNat)
    (ho : AddR zs x m o) : AddR zs d (n + m) o := by
  obtain ⟨v, hv, rfl⟩ := ho.get hl (decide_eq_true ⟨by omega, hx2⟩) hm (by omega)
  refine AddR.ok hl (decide_eq_true ⟨h1, h2⟩) (by omega) hb2 ?_
  rw [if_neg (by omega)]
  exact steps_math hn hm hx1 hx2 hb hc hv

set_option maxRecDepth 20000 in
set_option maxHeartbeats 2000000 in
theorem lsteps_any (d n k : Int) (L : List Nat) (l : Nat) (A : Option Addr) (cap : Nat) (w : World) (hd : 0 ≤ d ∧ d ≤ 255) (hn : 0 ≤ n ∧ n ≤ 255) (hk : 0 ≤ k ∧ k ≤ 255) (hl : L.length = l) (hl2 : l ≤ 9223372036854775807) (hb : ∀ x, x ∈ L → x < 256) (hx : RdU w A L) :
    Calls Try.prog 10 #[.int .u8 d, .int .u8 n, .int .u8 k, .slice A l cap] w fun e w' => e = .returned (.bool true) ∧ Chg [] w w' := by
  obtain ⟨d1, d2⟩ := hd
  obtain ⟨n1, n2⟩ := hn
  obtain ⟨k1, k2⟩ := hk
  have hch : Chg [] w w := Chg.refl _ _
  have HDY := Lib.hid (days_any L l A cap w hl hl2 hb hx)
  have hlen := dayz_len L
  have HIN := Lib.hid (dayz_in L)
  clear hl hb hx
  obtain ⟨zs, HZ⟩ := name_it (dayz L)
  rw [HZ.out] at HDY hlen HIN
  obtain ⟨m, Hm⟩ := name_it zs.length
  rw [Hm.out] at hlen
  obtain ⟨p, HP⟩ := name_it (1 + n % 30)
  have p1 : 1 ≤ p := by rw [← HP.out]; omega
  have p2 : p ≤ 30 := by rw [← HP.out]; omega
  obtain ⟨q, HQ⟩ := name_it (k % 30)
  have q1 : 0 ≤ q := by rw [← HQ.out]; omega
  have q2 : q ≤ 30 := by rw [← HQ.out]; omega
  go_enter Try.func10, Try.ntmps10
  go_wp2_with (first
    | (go_at_call 25; refine HDY.out.mono ?_; rintro e w1 ⟨v, rfl, hnew⟩; obtain ⟨B, cp, rfl, hr⟩ := hnew.1.rdz; have HR := Lib.hid hr; have c1 := hnew.2.2; rw [Hm.out]; clear hr hnew)
    | (go_at_call 20; rw [HP.out]; (with_reducible refine (add_soon zs d p m B cp _ d1 (by omega) (by omega) (by omega) Hm.out (by omega) HIN.out HR.out).mono ?_); rintro e w2 ⟨x, rfl, hx, c2⟩; have HXX := Lib.hid hx; clear hx; have x1 := HXX.out.2.2.2.2.1 (by omega); have x2 := HXX.out.2.1)
    | (go_at_call 20; rw [HQ.out]; (with_reducible refine (add_soon zs x q m B cp _ (by omega) (by omega) q1 (by omega) Hm.out (by omega) HIN.out (HR.out.keep0 c2)).mono ?_); rintro e w3 ⟨y, rfl, hy, c3⟩; have HYY := Lib.hid hy; clear hy; have HADD : Hid (AddR zs d (p + q) (two y 0)) := Lib.hid (steps_add (by rw [Hm.out]; omega) d1 (by omega) p1 q1 (by omega) (by omega) (by omega) HXX.out.2.2.1 (by have := HXX.out.2.2.2.1; rwa [if_neg (by omega)] at this) HYY.out.2.2.2.2.2))
    | (go_at_call 20; rw [HP.out, HQ.out]; refine (add_is zs d (p + q) y 0 m B cp _ ⟨by omega, by omega⟩ ⟨by omega, by omega⟩ Hm.out (by omega) HIN.out ((HR.out.keep0 c2).keep0 c3) HADD.out).mono ?_; rintro e w4 ⟨rfl, c4⟩)
    | (go_at_call 13; refine (awake_any _).mono ?_; rintro e w5 ⟨rfl, c5⟩))
  go_ret
  exact ⟨by simp, ((((hch.then c1).then c2).then c3).then c4).then c5⟩
end Go.Proofs.Ytfmbekdhkilflaa
