/-
  The law CalendarSplit.
-/
import Derived.Test.YtfmbekdhkilflaaC11
namespace Go.Proofs.Ytfmbekdhkilflaa
open Go.RowKit Go.Sort

theorem rev_snoc (zs : List Int) (k : Nat) (hk : k < zs.length) : zs.reverse.take (k + 1) = zs.reverse.take k ++ [zs.getD (zs.length - 1 - k) 0] := by
  rw [List.take_succ_eq_append_getElem (by rw [List.length_reverse]; exact hk), List.getElem_reverse]
  congr 2
  rw [List.getD_eq_getElem?_getD, List.getElem?_eq_getElem (by omega)]; rfl
theorem bus_rev (zs : List Int) (d : Int) : bus zs.reverse d = bus zs d := bus_mem_congr (by simp) d
theorem split_math (zs : List Int) {a b c : Int} (h1 : a ≤ b) (h2 : b ≤ c) : ((cnt (bus zs) a (b - a).toNat : Nat) : Int) + ((cnt (bus zs.reverse) b (c - b).toNat : Nat) : Int) = ((cnt (bus zs) a (c - a).toNat : Nat) : Int) := by
  rw [cnt_congr (bus_rev zs)]
  have := cnt_add (bus zs) a (b - a).toNat (c - b).toNat
  rw [show (b - a).toNat + (c - b).toNat = (c - a).toNat by omega, show a + (((b - a).toNat : Nat) : Int) = b by omega] at this
  omega

theorem cnt_le (P : Int → Bool) (a : Int) : ∀ n, cnt P a n ≤ n
  | 0 => Nat.le_refl _
  | n + 1 => by
    rw [cnt]
    have := cnt_le P a n
    split <;> omega

set_option maxRecDepth 20000 in
set_option maxHeartbeats 4000000 in
theorem lsplit_any (d n k : Int) (L : List Nat) (l : Nat) (A : Option Addr) (cap : Nat) (w : World) (hd : 0 ≤ d ∧ d ≤ 255) (hn : 0 ≤ n ∧ n ≤ 255) (hk : 0 ≤ k ∧ k ≤ 255) (hl : L.length = l) (hl2 : l ≤ 9223372036854775807) (hb : ∀ x, x ∈ L → x < 256) (hx : RdU w A L) :
    Calls Try.prog 11 #[.int .u8 d, .int .u8 n, .int .u8 k, .slice A l cap] w fun e w' => e = .returned (.bool true) ∧ Chg [] w w' := by
  obtain ⟨iI, hiI, hzI0, hzI1, hzI2⟩ := info_split Try.infoInt
  obtain ⟨d1, d2⟩ := hd
  obtain ⟨n1, n2⟩ := hn
  obtain ⟨k1, k2⟩ := hk
  have hch : Chg [] w w := Chg.refl _ _
  have HDY := Lib.hid (days_any L l A cap w hl hl2 hb hx)
  have hlen := dayz_len L
  have HIN := Lib.hid (dayz_in L)
  clear hl hb hx
  obtain ⟨zs, HZ⟩ := name_it (dayz L)
  rw [HZ.out] at HDY hlen HIN
  have HREV : Hid ((∀ x, x ∈ zs.reverse → I64 x) ∧ zs.reverse.length = zs.length) := Lib.hid ⟨fun x hx => HIN.out x (List.mem_reverse.1 hx), List.length_reverse⟩
  obtain ⟨m, Hm⟩ := name_it zs.length
  rw [Hm.out] at hlen HREV
  go_enter Try.func11, Try.ntmps11
  go_wp2_with (first
    | (go_at_call 25; refine HDY.out.mono ?_; rintro e w1 ⟨v, rfl, hnew⟩; obtain ⟨B, cp, rfl, hr⟩ := hnew.1.rdz; have HR := Lib.hid hr; have c1 := hnew.2.2; rw [Hm.out]; clear hr hnew))
  go_loopw [10, 11] (fun rv iv wr => ∃ (t : Nat), t ≤ m ∧ iv = .int .i64 ((m : Int) - 1 - t) ∧ OwnZ wr rv (zs.reverse.take t) ∧ (∀ x, x ∈ rv.ownBlock.toList → w1.heap.size ≤ x) ∧ Chg [] w1 wr) (fun _ iv _ => (intOf iv + 1).toNat)
  case atStart => exact ⟨0, Nat.zero_le _, by simp, OwnZ.nil w1, by simp [Value.ownBlock], Chg.refl _ _⟩
  case round =>
    obtain ⟨t, ht, rfl, hown, hnew, hc2⟩ := hrel
    have hx := HR.out.keep0 hc2
    have HO := Lib.hid hown
    have HW := Lib.hid hnew
    clear hown hnew
    by_cases hlt : t < m
    · obtain ⟨i, hi⟩ : ∃ i : Nat, Hid ((m : Int) - 1 - t = (i : Int) ∧ i = m - 1 - t) := ⟨m - 1 - t, Lib.hid ⟨by omega, rfl⟩⟩
      have him : i < m := by have := hi.out.2; omega
      rw [hi.out.1]
      obtain ⟨g, o, rfl, hg, a0⟩ := hx (by rw [Hm.out]; omega)
      have a1 := a0 i (by rw [Hm.out]; exact him)
      have HS : Hid (zs.reverse.take (t + 1) = zs.reverse.take t ++ [zs.getD i 0]) := Lib.hid (by
        rw [rev_snoc zs t (by rw [Hm.out]; exact hlt), Hm.out, ← hi.out.2])
      obtain ⟨z, HZZ⟩ := name_it (zs.getD i 0)
      rw [HZZ.out] at a1 HS
      have i1 : (0 : Int) ≤ (i : Int) := by omega
      have i2 : (i : Int) < (m : Int) := by omega
      clear a0
      obtain ⟨M, HM⟩ := name_it (zs.reverse.take t)
      have hlM : M.length ≤ 40 := by
        rw [← HM.out, List.length_take, HREV.out.2]; omega
      have hsz4 := hc2.size
      have c10 : Chg [] wr (wr.alloc (.cells #[.int .i64 z] 3)) := (Chg.refl _ _).alloc _
      have hown := HO.out.keep0 c10
      unfold OwnZ at hown
      rw [HM.out] at hown
      have hch4 := hc2.then c10
      have hcl : (wr.alloc (.cells #[.int .i64 z] 3)).cell? ⟨wr.heap.size, 0, none⟩ = some (.int .i64 z) := by simp
      clear hx hc2 c10
      go_wp2_with (at_builtin; refine wpList_append1 _ 25 3 iI _ 8 Try.underlying25 hiI hzI0 hzI1 hzI2 rfl (by omega) rfl (.tmp 32) (.tmp 37) rfl _ M.length (valz M) rfl hown ⟨wr.heap.size, 0, none⟩ 1 (.int .i64 z) rfl hcl rfl (by omega) ?_)
      intro v2 w5 own2 cv2 hv2
      have hO5 : Hid (OwnZ w5 v2 (M ++ [z])) := Lib.hid (by
        unfold OwnZ
        rw [List.length_append, List.length_singleton]
        have e : valz (M ++ [z]) = valz M ++ [.int .i64 z] := by simp [valz]
        rw [e]
        exact own2)
      have HW5 : Hid (∀ x, x ∈ v2.ownBlock.toList → w1.heap.size ≤ x) := Lib.hid fun x hx => by
        rcases hv2 with h5 | h5
        · rw [h5] at hx; exact HW.out x hx
        · rw [h5] at hx; simp at hx; omega
      have hch5 := Lib.hid (hch4.trans cv2 (fun x hx => .inr (HW.out x hx)))
      clear hch4 cv2 hv2 own2 hown hcl
      go_wp2_with fail
      go_roundw
      case rel => exact ⟨t + 1, by omega, (by have := hi.out.1; first | (congr 1; omega) | (congr 1; push_cast; omega) | go_num), by rw [HS.out, HM.out]; exact hO5.out, HW5.out, hch5.out⟩
      case measure => simp [intOf]
    · obtain rfl : t = m := by omega
      have e9 : ((t : Int) - 1 - t) = -1 := by omega
      rw [e9]
      have hO2 : OwnZ wr u10 zs.reverse := by
        have := HO.out
        rwa [List.take_of_length_le (by rw [HREV.out.2]; exact Nat.le_refl _)] at this
      obtain ⟨C, cq, rfl, hr2⟩ := hO2.rdz
      have HR2 := Lib.hid hr2
      have HRA := Lib.hid hx
      rw [HREV.out.2]
      obtain ⟨b, HBB⟩ := name_it (d + n)
      obtain ⟨c, HCC⟩ := name_it (b + k)
      have b1 : d ≤ b := by rw [← HBB.out]; omega
      have b2 : b ≤ 510 := by rw [← HBB.out]; omega
      have c1' : b ≤ c := by rw [← HCC.out]; omega
      have c2' : c ≤ 765 := by rw [← HCC.out]; omega
      have HSM := Lib.hid (split_math zs b1 c1')
      have HZ0 : Hid (((cnt (bus zs) c (d - c).toNat : Nat) : Int) = 0) := Lib.hid (by rw [show (d - c).toNat = 0 by omega]; rfl)
      clear hr2 hx hO2 e9
      have l1 := cnt_le (bus zs) d (b - d).toNat
      have l2 := cnt_le (bus zs.reverse) b (c - b).toNat
      obtain ⟨X, HXN⟩ := name_it (cnt (bus zs) d (b - d).toNat)
      obtain ⟨Y, HYN⟩ := name_it (cnt (bus zs.reverse) b (c - b).toNat)
      obtain ⟨Z, HZN⟩ := name_it (cnt (bus zs) d (c - d).toNat)
      rw [HXN.out] at l1 HSM
      rw [HYN.out] at l2 HSM
      rw [HZN.out] at HSM
      have l3 : X ≤ 1000 := by omega
      have l4 : Y ≤ 1000 := by omega
      have eq1 : ((X : Int) + (Y : Int) == (Z : Int)) = true := by have := HSM.out; simpa using this
      clear l1 l2
      go_upto_region 8 with fail
      rw [HBB.out, HCC.out]
      go_wp2_with (first
        | (go_at_call 23; (with_reducible refine (count_is zs d b t B cp _ (by omega) (by omega) (by omega) (by omega) Hm.out (by omega) HIN.out HRA.out).mono ?_); rintro e w2 ⟨rfl, c2⟩; rw [HXN.out])
        | (go_at_call 23; (with_reducible refine (count_is zs.reverse b c t C cq _ (by omega) (by omega) (by omega) (by omega) HREV.out.2 (by omega) HREV.out.1 (HR2.out.keep0 c2)).mono ?_); rintro e w3 ⟨rfl, c3⟩; rw [HYN.out])
        | (go_at_call 23; (with_reducible refine (count_is zs d c t B cp _ (by omega) (by omega) (by omega) (by omega) Hm.out (by omega) HIN.out ((HRA.out.keep0 c2).keep0 c3)).mono ?_); rintro e w4 ⟨rfl, c4⟩; rw [HZN.out])
        | (go_at_call 23; (with_reducible refine (count_is zs c d t B cp _ (by omega) (by omega) (by omega) (by omega) Hm.out (by omega) HIN.out (((HRA.out.keep0 c2).keep0 c3).keep0 c4)).mono ?_); rintro e w5 ⟨rfl, c5⟩; rw [HZ0.out])
        | (go_at_call 13; refine (awake_any _).mono ?_; rintro e w6 ⟨rfl, c6⟩))
      go_ret
      exact ⟨rfl, ((((((hch.then c1).then hc2).then c2).then c3).then c4).then c5).then c6⟩
end Go.Proofs.Ytfmbekdhkilflaa
