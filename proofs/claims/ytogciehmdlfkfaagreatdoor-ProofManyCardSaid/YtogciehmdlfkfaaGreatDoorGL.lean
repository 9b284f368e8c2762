/-
  Several parts put together: Shelf2, Q7, Q8, Q9.
-/
import Derived.Shelf.Small.Wraps
import Derived.Shelf.Strings.Search2
import Derived.Shelf.Strings.Repeat
import Derived.Test.YtogciehmdlfkfaaGreatDoorProg
import Derived.Test.YtogciehmdlfkfaaGreatDoorGK
import Derived.Test.YtogciehmdlfkfaaGreatDoorGF
import Derived.Lib.IndexLaws
/- Part Shelf2. -/

namespace Go.Proofs
open Go.Shelf
def Tryz.lays103_ren : Go.Shelf.Ren := ⟨fun | 103 => 165 | 210 => 182 | 206 => 195 | n => n, fun | 9 => 9 | 4 => 4 | 24 => 175 | 3 => 3 | n => n, fun | n => n⟩
theorem Tryz.lays103 : Go.Proofs.Lays.n103 Tryz.prog Tryz.lays103_ren := {
  mixed := by kernel_rfl
  f103 := Tryz.func165.trans (congrArg some (by kernel_rfl))
  f206 := Tryz.func195.trans (congrArg some (by kernel_rfl))
  f210 := Tryz.func182.trans (congrArg some (by kernel_rfl))
  t3 := Tryz.underlying3
  a3 := Tryz.isAgg3
  z3 := Tryz.sizeOf3
  v3 := Tryz.zeroValue3
  t4 := Tryz.underlying4
  a4 := Tryz.isAgg4
  z4 := Tryz.sizeOf4
  v4 := Tryz.zeroValue4
  t9 := Tryz.underlying9
  a9 := Tryz.isAgg9
  z9 := Tryz.sizeOf9
  v9 := Tryz.zeroValue9
  t24 := Tryz.underlying175
  a24 := Tryz.isAgg175
  z24 := Tryz.sizeOf175
  v24 := Tryz.zeroValue175 }
open Go.RowKit in
theorem Tryz.strings_CutPrefix (s p : ByteArray) (w : World) :
    Calls Tryz.prog 165 #[.string s, .string p] w fun e w' => e = .returned (.tuple #[.string ⟨(Lib.trimPrefix s.data.toList p.data.toList).toArray⟩, .bool (Lib.hasPrefix s.data.toList p.data.toList)]) ∧ w' = w := Any.strings_CutPrefix Tryz.lays103 s p w
def Tryz.lays219_ren : Go.Shelf.Ren := ⟨fun | 219 => 89 | 217 => 112 | 225 => 113 | 224 => 114 | 267 => 115 | 266 => 143 | 314 => 144 | n => n, fun | 9 => 9 | 3 => 3 | 4 => 4 | 5 => 5 | 46 => 121 | 146 => 153 | 51 => 120 | n => n, fun | 1 => 1 | n => n⟩
theorem Tryz.lays219 : Go.Proofs.Lays.n219 Tryz.prog Tryz.lays219_ren := {
  mixed := by kernel_rfl
  f217 := Tryz.func112.trans (congrArg some (by kernel_rfl))
  f219 := Tryz.func89.trans (congrArg some (by kernel_rfl))
  f224 := Tryz.func114.trans (congrArg some (by kernel_rfl))
  f225 := Tryz.func113.trans (congrArg some (by kernel_rfl))
  f266 := Tryz.func143.trans (congrArg some (by kernel_rfl))
  f267 := Tryz.func115.trans (congrArg some (by kernel_rfl))
  f314 := Tryz.func144.trans (congrArg some (by kernel_rfl))
  t3 := Tryz.underlying3
  a3 := Tryz.isAgg3
  z3 := Tryz.sizeOf3
  v3 := Tryz.zeroValue3
  t4 := Tryz.underlying4
  a4 := Tryz.isAgg4
  z4 := Tryz.sizeOf4
  v4 := Tryz.zeroValue4
  t5 := Tryz.underlying5
  a5 := Tryz.isAgg5
  z5 := Tryz.sizeOf5
  v5 := Tryz.zeroValue5
  t9 := Tryz.underlying9
  a9 := Tryz.isAgg9
  z9 := Tryz.sizeOf9
  v9 := Tryz.zeroValue9
  t46 := Tryz.underlying121
  a46 := Tryz.isAgg121
  z46 := Tryz.sizeOf121
  v46 := Tryz.zeroValue121
  t51 := Tryz.underlying120
  a51 := Tryz.isAgg120
  z51 := Tryz.sizeOf120
  v51 := Tryz.zeroValue120
  t146 := Tryz.underlying153
  a146 := Tryz.isAgg153
  z146 := Tryz.sizeOf153
  v146 := Tryz.zeroValue153
  g1 := by kernel_rfl }
open Go.RowKit in
theorem Tryz.stringslite_Index_one (s : ByteArray) (c : UInt8) (w : World) :
    Calls Tryz.prog 89 #[.string s, .string ⟨#[c]⟩] w fun e w' => e = .returned (.int .i64 (Lib.indexByte s.data.toList c)) ∧ w' = w := Any.stringslite_Index_one Tryz.lays219 s c w
end Go.Proofs

/- Part Q7. -/

namespace Go.Proofs.YtogciehmdlfkfaaGreatDoor
open Go.RowKit Nd

theorem pow10_lt (n : Nat) : 10 ^ n < 256 ^ (n + 1) := Nat.lt_of_le_of_lt (Nat.pow_le_pow_left (by omega) n) (Nat.pow_lt_pow_right (by omega) (by omega))
theorem pow10_half (n : Nat) : 10 ^ n = 10 ^ (n / 2) * 10 ^ (n / 2) * (if n % 2 = 1 then 10 else 1) := by
  rw [← Nat.pow_add]
  by_cases h : n % 2 = 1
  · rw [if_pos h, ← Nat.pow_succ]; congr 1; omega
  · rw [if_neg h, Nat.mul_one]; congr 1; omega

set_option maxRecDepth 20000 in
theorem pow10_any (k : Nat) : ∀ (n : Nat) (w : World), n ≤ k → n ≤ 1000000 →
    Calls Tryz.prog 187 #[.int .i64 n] w fun e w' => ∃ s, e = .returned (.string s) ∧ Is s (10 ^ n) ∧ Chg [] w w' := by
  induction k with
  | zero =>
    intro n w hk _
    obtain rfl : n = 0 := by omega
    go_enter Tryz.func187, Tryz.ntmps187
    go_wp2_with fail
    go_ret
    exact ⟨_, rfl, Is_one.2 rfl, Chg.refl _ _⟩
  | succ k ih =>
    intro n w hk hn
    by_cases h0 : n = 0
    · subst h0
      go_enter Tryz.func187, Tryz.ntmps187
      go_wp2_with fail
      go_ret
      exact ⟨_, rfl, Is_one.2 rfl, Chg.refl _ _⟩
    · have hb : ((n : Int) == 0) = false := by rw [beq_eq_false_iff_ne]; omega
      have hh := Lib.hid (pow10_half n)
      obtain ⟨h, HH⟩ := name_it (n / 2)
      have hhb : h ≤ 1000000 := by have := HH.out; omega
      have he : Hid ((n : Int) / 2 = (h : Int)) := by show _ = _; rw [← HH.out]; omega
      have hhk : h ≤ k := by have := HH.out; omega
      rw [HH.out] at hh
      clear h0 hk
      go_enter Tryz.func187, Tryz.ntmps187
      go_wp2_with fail
      rw [he.out]
      refine (ih h _ hhk hhb).mono ?_
      rintro e w1 ⟨s, rfl, hs, c1⟩
      have zs : s.size ≤ 1099511627776 := Nat.le_trans (Is_size hs _ (pow10_lt h)) (by omega)
      have HS := Lib.hid hs
      clear hs
      go_wp2_with fail
      refine (multiply_any s s _ zs zs).mono ?_
      rintro e w2 ⟨t, rfl, ht, c2⟩
      rw [Is_val HS.out] at ht
      have zt : t.size ≤ 1099511627776 := by
        have h1 := mul_lt_pow (pow10_lt h) (pow10_lt h)
        exact Nat.le_trans (Is_size ht _ h1) (by omega)
      have HT := Lib.hid ht
      have hch := c1.then c2
      clear ht c1 c2
      by_cases hodd : n % 2 = 1
      · have hob : ((n : Int) % 2 == 1) = true := by rw [beq_iff_eq]; omega
        rw [if_pos hodd] at hh
        clear hodd
        go_wp2_with fail
        refine (multiply_any t ⟨#[10]⟩ _ zt (by decide)).mono ?_
        rintro e w3 ⟨u, rfl, hu, c3⟩
        rw [Is_val HT.out, show val ⟨#[10]⟩ = 10 from rfl] at hu
        have HU := Lib.hid hu
        clear hu
        go_wp2_with fail
        go_ret
        exact ⟨u, rfl, by rw [hh.out]; exact HU.out, hch.then c3⟩
      · have hob : ((n : Int) % 2 == 1) = false := by rw [beq_eq_false_iff_ne]; omega
        rw [if_neg hodd, Nat.mul_one] at hh
        clear hodd
        go_wp2_with fail
        go_ret
        exact ⟨t, rfl, by rw [hh.out]; exact HT.out, hch⟩

/-- The error that comes first. -/
def firstE (a b : Int) : Int := if a = 0 ∨ b = 3 then b else a
set_option maxRecDepth 20000 in
theorem first_any (a b : Int) (w : World) :
    Calls Tryz.prog 184 #[.int .i64 a, .int .i64 b] w fun e w' => e = .returned (.int .i64 (firstE a b)) ∧ w = w' := by
  obtain ⟨r, HR⟩ := name_it (firstE a b)
  rw [HR.out]
  by_cases ha : a = 0
  · have hr : Hid (r = b) := by show _ = _; rw [← HR.out]; unfold firstE; rw [if_pos (.inl ha)]
    subst ha
    go_enter Tryz.func184, Tryz.ntmps184
    go_wp2_with fail
    go_ret
    exact ⟨ret_eq (by rw [hr.out]; rfl), rfl⟩
  · have ha1 : (a == 0) = false := by rw [beq_eq_false_iff_ne]; exact ha
    by_cases hb : b = 3
    · have hr : Hid (r = b) := by show _ = _; rw [← HR.out]; unfold firstE; rw [if_pos (.inr hb)]
      subst hb
      clear ha
      go_enter Tryz.func184, Tryz.ntmps184
      go_wp2_with fail
      go_ret
      exact ⟨ret_eq (by rw [hr.out]; rfl), rfl⟩
    · have hb1 : (b == 3) = false := by rw [beq_eq_false_iff_ne]; exact hb
      have hr : Hid (r = a) := by show _ = _; rw [← HR.out]; unfold firstE; rw [if_neg (by intro h; rcases h with h | h; exact ha h; exact hb h)]
      clear ha hb
      go_enter Tryz.func184, Tryz.ntmps184
      go_wp2_with fail
      go_ret
      exact ⟨ret_eq (by rw [hr.out]; rfl), rfl⟩

/-- The error of a number in decimal. -/
def pE (l : List UInt8) : Int := if canD l = true then (if 2000 < l.length then 2 else 0) else 3
theorem pE_cases (l : List UInt8) : pE l = 0 ∨ pE l = 2 ∨ pE l = 3 := by unfold pE; split <;> (try split) <;> simp
theorem size_len (s : ByteArray) : s.data.toList.length = s.size := by simp only [ByteArray.size, Array.length_toList]
theorem dv_size {s t : ByteArray} (h : Is t (dv s.data.toList)) (hall : s.data.toList.all isD = true) : t.size ≤ s.size := by
  refine Is_size h _ ?_
  have := dv_lt _ hall
  rw [size_len] at this
  exact Nat.lt_of_lt_of_le this (Nat.pow_le_pow_left (by omega) _)
theorem canD_all {l : List UInt8} (h : canD l = true) : l.all isD = true := by simp only [canD, Bool.and_eq_true] at h; exact h.1.2

theorem parse_all (s : ByteArray) (w : World) (hs : s.size ≤ 1099511627776) :
    Calls Tryz.prog 183 #[.string s] w fun e w' => ∃ t, e = .returned (.tuple #[.string t, .int .i64 (pE s.data.toList)]) ∧ (pE s.data.toList = 0 → Is t (dv s.data.toList)) ∧ t.size ≤ 2000 ∧ Chg [] w w' := by
  by_cases hc : canD s.data.toList = true
  · by_cases hl : 2000 < s.size
    · have he : pE s.data.toList = 2 := by unfold pE; rw [if_pos hc, if_pos (by rw [size_len]; exact hl)]
      refine (parse_long s w hs hc hl).mono fun e w' ⟨h1, h2⟩ => ?_
      subst h2
      exact ⟨_, by rw [he]; exact h1, fun h => by rw [he] at h; simp at h, by decide, Chg.refl _ _⟩
    · have he : pE s.data.toList = 0 := by unfold pE; rw [if_pos hc, if_neg (by rw [size_len]; exact hl)]
      refine (parse_good s w hc (by omega)).mono fun e w' ⟨t, h1, h2, h3⟩ => ?_
      exact ⟨t, by rw [he]; exact h1, fun _ => h2, Nat.le_trans (dv_size h2 (canD_all hc)) (by omega), h3⟩
  · have hc' : canD s.data.toList = false := by simpa using hc
    have he : pE s.data.toList = 3 := by unfold pE; rw [if_neg hc]
    refine (parse_bad s w hs hc').mono fun e w' ⟨h1, h2⟩ => ?_
    subst h2
    exact ⟨_, by rw [he]; exact h1, fun h => by rw [he] at h; simp at h, by decide, Chg.refl _ _⟩

/-- The error of digits behind a point. -/
def dE (l : List UInt8) : Int := if l.isEmpty then 3 else if l.all isD then (if 2000 < l.length then 2 else 0) else 3
theorem dE_cases (l : List UInt8) : dE l = 0 ∨ dE l = 2 ∨ dE l = 3 := by unfold dE; split <;> (try split) <;> (try split) <;> simp
theorem cut0_all' (l : List UInt8) : (cut0 l).all isD = l.all isD := by
  unfold cut0
  induction l with
  | nil => rfl
  | cons x l ih =>
    by_cases h : x = 48
    · subst h; simp [isD] at ih ⊢; exact ih
    · simp [h]
theorem cut0_len (l : List UInt8) : (cut0 l).length ≤ l.length := dropWhile_le _ _
theorem canD_cut0 {l : List UInt8} (h : cut0 l ≠ []) : canD (cut0 l) = l.all isD := by
  unfold canD
  rw [cut0_all']
  have h1 := cut0_head l
  have h2 : (cut0 l).isEmpty = false := by simpa using h
  rw [h2]; simp [h1]
theorem cut0_nil_all {l : List UInt8} (h : cut0 l = []) : l.all isD = true := by
  rw [← cut0_all', h]; rfl

set_option maxRecDepth 20000 in
theorem parseDigits_any (s : ByteArray) (w : World) (hs : s.size ≤ 1099511627776) :
    Calls Tryz.prog 186 #[.string s] w fun e w' => ∃ t, e = .returned (.tuple #[.string t, .int .i64 (dE s.data.toList)]) ∧ (dE s.data.toList = 0 → Is t (dv s.data.toList)) ∧ t.size ≤ 2000 ∧ Chg [] w w' := by
  obtain ⟨r, HR⟩ := name_it (dE s.data.toList)
  rw [HR.out]
  by_cases he : s.toList.isEmpty = true
  · have hr : Hid (r = 3) := by show _ = _; rw [← HR.out]; unfold dE; rw [← toList_data, if_pos he]
    go_enter Tryz.func186, Tryz.ntmps186
    go_wp2_with fail
    go_ret2
    exact ⟨_, ret_eq (by rw [hr.out]; rfl), fun h => by rw [hr.out] at h; simp at h, by decide, Chg.refl _ _⟩
  · have he' : s.toList.isEmpty = false := by simpa using he
    have hne : Hid (s.data.toList.isEmpty = false) := by show _ = _; rw [← toList_data]; exact he'
    clear he
    go_enter Tryz.func186, Tryz.ntmps186
    go_wp2_with fail
    refine (trimLeft_any s _ hs).mono ?_
    rintro e w1 ⟨t, rfl, ht, rfl⟩
    have HT := Lib.hid ht
    clear ht
    have zt : t.size ≤ s.size := by rw [← size_len, ← size_len, HT.out]; exact cut0_len _
    by_cases h0 : t.toList.isEmpty = true
    · have hcn : Hid (cut0 s.data.toList = []) := by show _ = _; rw [← HT.out, ← toList_data]; simpa using h0
      have hz : Hid (dv s.data.toList = 0) := by show _ = _; rw [← dv_cut0, hcn.out]; rfl
      by_cases hl : 2000 < s.size
      · have hr : Hid (r = 2) := by show _ = _; rw [← HR.out]; unfold dE; rw [hne.out, cut0_nil_all hcn.out, size_len]; simp [hl]
        go_wp2_with fail
        go_ret2
        exact ⟨_, ret_eq (by rw [hr.out]; rfl), fun h => by rw [hr.out] at h; simp at h, by decide, Chg.refl _ _⟩
      · have hr : Hid (r = 0) := by show _ = _; rw [← HR.out]; unfold dE; rw [hne.out, cut0_nil_all hcn.out, size_len]; simp [hl]
        go_wp2_with fail
        go_ret2
        exact ⟨_, ret_eq (by rw [hr.out]; rfl), fun _ => by rw [hz.out]; exact Is_zero.2 rfl, by decide, Chg.refl _ _⟩
    · have h0' : t.toList.isEmpty = false := by simpa using h0
      have hcn : Hid (cut0 s.data.toList ≠ []) := by
        show _ ≠ _
        rw [← HT.out, ← toList_data]; simpa using h0
      clear h0
      go_wp2_with fail
      refine (parse_all t _ (by omega)).mono ?_
      rintro e w2 ⟨v, rfl, hv, zv, c2⟩
      have HPE : Hid (pE t.data.toList = if s.data.toList.all isD = true then (if 2000 < t.size then 2 else 0) else 3) := by
        show _ = _
        unfold pE
        rw [size_len, HT.out, canD_cut0 hcn.out]
      rw [HT.out, dv_cut0, ← HT.out] at hv
      obtain ⟨q, HQ⟩ := name_it (pE t.data.toList)
      rw [HQ.out] at hv HPE ⊢
      have HV := Lib.hid hv
      clear hv
      by_cases hall : s.data.toList.all isD = true
      · rw [if_pos hall] at HPE
        by_cases hl : 2000 < s.size
        · have hr : Hid (r = 2) := by show _ = _; rw [← HR.out]; unfold dE; rw [hne.out, hall, size_len]; simp [hl]
          by_cases hl2 : 2000 < t.size
          · rw [if_pos hl2] at HPE
            obtain rfl : q = 2 := HPE.out
            clear hall
            go_wp2_with fail
            go_ret2
            exact ⟨_, ret_eq (by rw [hr.out]; rfl), fun h => by rw [hr.out] at h; simp at h, by omega, c2⟩
          · rw [if_neg hl2] at HPE
            obtain rfl : q = 0 := HPE.out
            clear hall
            go_wp2_with fail
            go_ret2
            exact ⟨_, ret_eq (by rw [hr.out]; rfl), fun h => by rw [hr.out] at h; simp at h, by decide, c2⟩
        · have hr : Hid (r = 0) := by show _ = _; rw [← HR.out]; unfold dE; rw [hne.out, hall, size_len]; simp [hl]
          rw [if_neg (by omega)] at HPE
          obtain rfl : q = 0 := HPE.out
          clear hall
          go_wp2_with fail
          go_ret2
          exact ⟨_, ret_eq (by rw [hr.out]; rfl), fun _ => by first | exact HV.out rfl | exact HV.out trivial, zv, c2⟩
      · have hr : Hid (r = 3) := by show _ = _; rw [← HR.out]; unfold dE; rw [hne.out]; simp only [Bool.false_eq_true, if_false]; rw [if_neg hall]
        rw [if_neg hall] at HPE
        obtain rfl : q = 3 := HPE.out
        clear hall
        go_wp2_with fail
        go_ret2
        exact ⟨_, ret_eq (by rw [hr.out]; rfl), fun h => by rw [hr.out] at h; simp at h, zv, c2⟩

end Go.Proofs.YtogciehmdlfkfaaGreatDoor

/- Part Q8. -/

namespace Go.Proofs.YtogciehmdlfkfaaGreatDoor
open Go.RowKit Nd

theorem firstE_zero {a b : Int} (h : firstE a b = 0) : a = 0 ∧ b = 0 := by
  unfold firstE at h
  split at h
  · rename_i h1
    rcases h1 with h1 | h1
    · exact ⟨h1, h⟩
    · omega
  · rename_i h1
    exact absurd (.inl h) h1
def quoE (l m : List UInt8) : Int := if firstE (pE l) (pE m) ≠ 0 then firstE (pE l) (pE m) else if dv m = 0 then 1 else 0
def quoQ (neg : Bool) (l m : List UInt8) : Rat := if quoE l m = 0 then sq neg (dv l) (dv m) else 0
def decE (l m : List UInt8) : Int := firstE (pE l) (dE m)
def decQ (neg : Bool) (l m : List UInt8) : Rat := if decE l m = 0 then sq neg (dv l * 10 ^ m.length + dv m) (10 ^ m.length) else 0

set_option maxRecDepth 20000 in
set_option maxHeartbeats 1000000 in
theorem parseQuotient_any (neg : Bool) (N D : ByteArray) (w : World) (hN : N.size ≤ 1099511627776) (hD : D.size ≤ 1099511627776) :
    Calls Tryz.prog 166 #[.bool neg, .string N, .string D] w fun e w' => ∃ x, e = .returned (.tuple #[.agg #[.bool x.neg, .string x.num, .string x.den], .int .i64 (quoE N.data.toList D.data.toList)]) ∧ Enc x (quoQ neg N.data.toList D.data.toList) ∧ Chg [] w w' := by
  have b0 := Blk3.alloc w (.bool false) (.string ⟨#[]⟩) (.string ⟨#[]⟩) 25
  have hch : Chg [] w (w.alloc (.cells #[.bool false, .string ⟨#[]⟩, .string ⟨#[]⟩] 25)) := (Chg.refl _ _).alloc _
  obtain ⟨r, HR⟩ := name_it (quoE N.data.toList D.data.toList)
  obtain ⟨qq, HQ⟩ := name_it (quoQ neg N.data.toList D.data.toList)
  rw [HR.out, HQ.out]
  go_enter Tryz.func166, Tryz.ntmps166
  go_wp2_with fail
  refine (parse_all N _ hN).mono ?_
  rintro e w1 ⟨n, rfl, hn, zn, c1⟩
  replace b0 := b0.keep c1 (by simp)
  replace hch := hch.then c1
  clear c1
  obtain ⟨e1, E1⟩ := name_it (pE N.data.toList)
  rw [E1.out] at hn ⊢
  have HN := Lib.hid hn
  clear hn
  have b0c0 := b0.c0
  have b0c1 := b0.c1
  have b0c2 := b0.c2
  have b0f0 := b0.f0
  have b0f1 := b0.f1
  have b0f2 := b0.f2
  have b0l := b0.lt
  go_wp2_with fail
  refine (parse_all D _ hD).mono ?_
  rintro e w1 ⟨d, rfl, hd, zd, c1⟩
  clear b0c0 b0c1 b0c2 b0f0 b0f1 b0f2 b0l
  replace b0 := b0.keep c1 (by simp)
  replace hch := hch.then c1
  clear c1
  obtain ⟨e2, E2⟩ := name_it (pE D.data.toList)
  rw [E2.out] at hd ⊢
  have HD := Lib.hid hd
  clear hd
  have b0c0 := b0.c0
  have b0c1 := b0.c1
  have b0c2 := b0.c2
  have b0f0 := b0.f0
  have b0f1 := b0.f1
  have b0f2 := b0.f2
  have b0l := b0.lt
  go_wp2_with fail
  refine (first_any e1 e2 _).mono ?_
  rintro e w1 ⟨rfl, rfl⟩
  obtain ⟨fe, FE⟩ := name_it (firstE e1 e2)
  rw [FE.out]
  by_cases hf : fe = 0
  · have hz := firstE_zero (FE.out.trans hf)
    obtain ⟨z1, z2⟩ := hz
    have IN := Lib.hid (HN.out z1)
    have ID := Lib.hid (HD.out z2)
    have hr : Hid (r = if dv D.data.toList = 0 then 1 else 0) := by
      show _ = _
      rw [← HR.out]; unfold quoE; rw [E1.out, E2.out, FE.out, if_neg (by simp [hf])]
    have hq : Hid (qq = if r = 0 then sq neg (dv N.data.toList) (dv D.data.toList) else 0) := by
      show _ = _
      rw [← HQ.out]; unfold quoQ; rw [HR.out]
    clear z1 z2
    subst hf
    by_cases h0 : dv D.data.toList = 0
    · rw [if_pos h0] at hr
      have hr1 : Hid (r = 1) := hr.out
      have hv : Hid (val d = 0) := by show _ = _; rw [Is_val ID.out]; exact h0
      have HE : Hid (Enc ⟨false, ⟨#[]⟩, ⟨#[]⟩⟩ qq) := Lib.hid (by rw [hq.out, hr1.out]; simp; exact Enc_zero)
      clear h0 hr
      go_wp2_with fail
      refine (Make_zero neg n d _ (by omega) (by omega) hv.out).mono ?_
      rintro e w1 ⟨rfl, c1⟩
      clear b0c0 b0c1 b0c2 b0f0 b0f1 b0f2 b0l
      replace b0 := b0.keep c1 (by simp)
      replace hch := hch.then c1
      clear c1
      have b0c0 := b0.c0
      have b0c1 := b0.c1
      have b0c2 := b0.c2
      have b0f0 := b0.f0
      have b0f1 := b0.f1
      have b0f2 := b0.f2
      have b0l := b0.lt
      go_wp2_with fail
      have S := (b0.store (.bool false) (.string ⟨#[]⟩) (.string ⟨#[]⟩)).keep ((Chg.refl [] _).alloc (.cells #[.bool false, .string ⟨#[]⟩, .string ⟨#[]⟩] 25)) (by simp)
      rw [hr1.out]
      exact bodyPost_ret (v := .tuple #[.agg #[.bool false, .string ⟨#[]⟩, .string ⟨#[]⟩], .int .i64 1]) (by simp [results, Tryz.results166, go_sem, S.c0, S.c1, S.c2]) rfl ⟨⟨false, ⟨#[]⟩, ⟨#[]⟩⟩, rfl, HE.out, (hch.store3 (.inr (Nat.le_refl _)) _ _ _).alloc _⟩
    · rw [if_neg h0] at hr
      have hr1 : Hid (r = 0) := hr.out
      have hv : Hid (val d ≠ 0) := by show _ ≠ _; rw [Is_val ID.out]; exact h0
      have hqq : Hid (sq neg (val n) (val d) = qq) := by show _ = _; rw [hq.out, hr1.out, Is_val IN.out, Is_val ID.out]; simp
      clear h0 hr
      go_wp2_with fail
      refine (Make_any neg n d _ (by omega) (by omega) hv.out).mono ?_
      rintro e w1 ⟨x, rfl, hx, c1⟩
      clear b0c0 b0c1 b0c2 b0f0 b0f1 b0f2 b0l
      replace b0 := b0.keep c1 (by simp)
      replace hch := hch.then c1
      clear c1
      rw [hqq.out] at hx
      have HX := Lib.hid hx
      clear hx
      have b0c0 := b0.c0
      have b0c1 := b0.c1
      have b0c2 := b0.c2
      have b0f0 := b0.f0
      have b0f1 := b0.f1
      have b0f2 := b0.f2
      have b0l := b0.lt
      go_wp2_with fail
      have S := (b0.store (.bool x.neg) (.string x.num) (.string x.den)).keep ((Chg.refl [] _).alloc (.cells #[.bool x.neg, .string x.num, .string x.den] 25)) (by simp)
      rw [hr1.out]
      exact bodyPost_ret (v := .tuple #[.agg #[.bool x.neg, .string x.num, .string x.den], .int .i64 0]) (by simp [results, Tryz.results166, go_sem, S.c0, S.c1, S.c2]) rfl ⟨x, rfl, HX.out, (hch.store3 (.inr (Nat.le_refl _)) _ _ _).alloc _⟩
  · have hr : Hid (r = fe) := by
      show _ = _
      rw [← HR.out]; unfold quoE; rw [E1.out, E2.out, FE.out, if_pos hf]
    have HE : Hid (Enc ⟨false, ⟨#[]⟩, ⟨#[]⟩⟩ qq) := Lib.hid (by rw [← HQ.out]; unfold quoQ; rw [HR.out, hr.out, if_neg hf]; exact Enc_zero)
    have hfb : (fe == 0) = false := by rw [beq_eq_false_iff_ne]; exact hf
    have hfb2 : (fe != 0) = true := by rw [bne_iff_ne]; exact hf
    clear hf
    go_wp2_with fail
    have S := b0.store (.bool false) (.string ⟨#[]⟩) (.string ⟨#[]⟩)
    rw [hr.out]
    exact bodyPost_ret (v := .tuple #[.agg #[.bool false, .string ⟨#[]⟩, .string ⟨#[]⟩], .int .i64 fe]) (by simp [results, Tryz.results166, go_sem, S.c0, S.c1, S.c2]) rfl ⟨⟨false, ⟨#[]⟩, ⟨#[]⟩⟩, rfl, HE.out, hch.store3 (.inr (Nat.le_refl _)) _ _ _⟩

set_option maxRecDepth 20000 in
set_option maxHeartbeats 1000000 in
theorem parseDecimal_any (neg : Bool) (N D : ByteArray) (w : World) (hN : N.size ≤ 1099511627776) (hD : D.size ≤ 1099511627776) :
    Calls Tryz.prog 167 #[.bool neg, .string N, .string D] w fun e w' => ∃ x, e = .returned (.tuple #[.agg #[.bool x.neg, .string x.num, .string x.den], .int .i64 (decE N.data.toList D.data.toList)]) ∧ Enc x (decQ neg N.data.toList D.data.toList) ∧ Chg [] w w' := by
  have b0 := Blk3.alloc w (.bool false) (.string ⟨#[]⟩) (.string ⟨#[]⟩) 25
  have hch : Chg [] w (w.alloc (.cells #[.bool false, .string ⟨#[]⟩, .string ⟨#[]⟩] 25)) := (Chg.refl _ _).alloc _
  obtain ⟨r, HR⟩ := name_it (decE N.data.toList D.data.toList)
  obtain ⟨qq, HQ⟩ := name_it (decQ neg N.data.toList D.data.toList)
  rw [HR.out, HQ.out]
  go_enter Tryz.func167, Tryz.ntmps167
  go_wp2_with fail
  refine (parse_all N _ hN).mono ?_
  rintro e w1 ⟨n, rfl, hn, zn, c1⟩
  replace b0 := b0.keep c1 (by simp)
  replace hch := hch.then c1
  clear c1
  obtain ⟨e1, E1⟩ := name_it (pE N.data.toList)
  rw [E1.out] at hn ⊢
  have HN := Lib.hid hn
  clear hn
  have b0c0 := b0.c0
  have b0c1 := b0.c1
  have b0c2 := b0.c2
  have b0f0 := b0.f0
  have b0f1 := b0.f1
  have b0f2 := b0.f2
  have b0l := b0.lt
  go_wp2_with fail
  refine (parseDigits_any D _ hD).mono ?_
  rintro e w1 ⟨d, rfl, hd, zd, c1⟩
  clear b0c0 b0c1 b0c2 b0f0 b0f1 b0f2 b0l
  replace b0 := b0.keep c1 (by simp)
  replace hch := hch.then c1
  clear c1
  obtain ⟨e2, E2⟩ := name_it (dE D.data.toList)
  rw [E2.out] at hd ⊢
  have HD := Lib.hid hd
  clear hd
  have b0c0 := b0.c0
  have b0c1 := b0.c1
  have b0c2 := b0.c2
  have b0f0 := b0.f0
  have b0f1 := b0.f1
  have b0f2 := b0.f2
  have b0l := b0.lt
  go_wp2_with fail
  refine (first_any e1 e2 _).mono ?_
  rintro e w1 ⟨rfl, rfl⟩
  obtain ⟨fe, FE⟩ := name_it (firstE e1 e2)
  rw [FE.out]
  have hr : Hid (r = fe) := by
    show _ = _
    rw [← HR.out]; unfold decE; rw [E1.out, E2.out, FE.out]
  by_cases hf : fe = 0
  · have hz := firstE_zero (FE.out.trans hf)
    obtain ⟨z1, z2⟩ := hz
    have hD0 : Hid (D.size ≤ 2000) := by
      show _ ≤ _
      have h1 := E2.out
      rw [z2] at h1
      unfold dE at h1
      split at h1
      · simp at h1
      · split at h1
        · split at h1
          · simp at h1
          · rename_i h2; rw [size_len] at h2; omega
        · simp at h1
    have hD1 := hD0.out
    have IN := Lib.hid (HN.out z1)
    have ID := Lib.hid (HD.out z2)
    have hq : Hid (qq = sq neg (dv N.data.toList * 10 ^ D.size + dv D.data.toList) (10 ^ D.size)) := by
      show _ = _
      rw [← HQ.out]; unfold decQ; rw [HR.out, hr.out, if_pos hf, size_len]
    clear z1 z2
    subst hf
    go_wp2_with fail
    refine (pow10_any D.size D.size _ (Nat.le_refl _) (by omega)).mono ?_
    rintro e w1 ⟨s, rfl, hs, c1⟩
    clear b0c0 b0c1 b0c2 b0f0 b0f1 b0f2 b0l
    replace b0 := b0.keep c1 (by simp)
    replace hch := hch.then c1
    clear c1
    have zs : s.size ≤ 10000 := Nat.le_trans (Is_size hs _ (pow10_lt D.size)) (by omega)
    have HS := Lib.hid hs
    clear hs
    have b0c0 := b0.c0
    have b0c1 := b0.c1
    have b0c2 := b0.c2
    have b0f0 := b0.f0
    have b0f1 := b0.f1
    have b0f2 := b0.f2
    have b0l := b0.lt
    go_wp2_with fail
    refine (multiply_any n s _ (by omega) (by omega)).mono ?_
    rintro e w1 ⟨t, rfl, ht, c1⟩
    clear b0c0 b0c1 b0c2 b0f0 b0f1 b0f2 b0l
    replace b0 := b0.keep c1 (by simp)
    replace hch := hch.then c1
    clear c1
    have zt : t.size ≤ 100000 := Nat.le_trans (Is_size ht _ (mul_lt_pow (val_lt n) (val_lt s))) (by omega)
    rw [Is_val IN.out, Is_val HS.out] at ht
    have HT := Lib.hid ht
    clear ht
    have b0c0 := b0.c0
    have b0c1 := b0.c1
    have b0c2 := b0.c2
    have b0f0 := b0.f0
    have b0f1 := b0.f1
    have b0f2 := b0.f2
    have b0l := b0.lt
    go_wp2_with fail
    refine (add_any t d _ (by omega) (by omega)).mono ?_
    rintro e w1 ⟨u, rfl, hu, c1⟩
    clear b0c0 b0c1 b0c2 b0f0 b0f1 b0f2 b0l
    replace b0 := b0.keep c1 (by simp)
    replace hch := hch.then c1
    clear c1
    have zu : u.size ≤ 1000000 := Nat.le_trans (Is_size hu _ (add_lt_pow (k := t.size + d.size) (lt_pow_le (val_lt t) (by omega)) (lt_pow_le (val_lt d) (by omega)))) (by omega)
    rw [Is_val HT.out, Is_val ID.out] at hu
    have HU := Lib.hid hu
    clear hu
    have b0c0 := b0.c0
    have b0c1 := b0.c1
    have b0c2 := b0.c2
    have b0f0 := b0.f0
    have b0f1 := b0.f1
    have b0f2 := b0.f2
    have b0l := b0.lt
    go_wp2_with fail
    refine (Make_any neg u s _ (by omega) (by omega) (by rw [Is_val HS.out]; exact Nat.ne_of_gt (Nat.pow_pos (by omega)))).mono ?_
    rintro e w1 ⟨x, rfl, hx, c1⟩
    clear b0c0 b0c1 b0c2 b0f0 b0f1 b0f2 b0l
    replace b0 := b0.keep c1 (by simp)
    replace hch := hch.then c1
    clear c1
    rw [Is_val HU.out, Is_val HS.out, ← hq.out] at hx
    have HX := Lib.hid hx
    clear hx
    have b0c0 := b0.c0
    have b0c1 := b0.c1
    have b0c2 := b0.c2
    have b0f0 := b0.f0
    have b0f1 := b0.f1
    have b0f2 := b0.f2
    have b0l := b0.lt
    go_wp2_with fail
    have S := (b0.store (.bool x.neg) (.string x.num) (.string x.den)).keep ((Chg.refl [] _).alloc (.cells #[.bool x.neg, .string x.num, .string x.den] 25)) (by simp)
    rw [hr.out]
    exact bodyPost_ret (v := .tuple #[.agg #[.bool x.neg, .string x.num, .string x.den], .int .i64 0]) (by simp [results, Tryz.results167, go_sem, S.c0, S.c1, S.c2]) rfl ⟨x, rfl, HX.out, (hch.store3 (.inr (Nat.le_refl _)) _ _ _).alloc _⟩
  · have HE : Hid (Enc ⟨false, ⟨#[]⟩, ⟨#[]⟩⟩ qq) := Lib.hid (by rw [← HQ.out]; unfold decQ; rw [HR.out, hr.out, if_neg hf]; exact Enc_zero)
    have hfb : (fe == 0) = false := by rw [beq_eq_false_iff_ne]; exact hf
    have hfb2 : (fe != 0) = true := by rw [bne_iff_ne]; exact hf
    clear hf
    go_wp2_with fail
    have S := b0.store (.bool false) (.string ⟨#[]⟩) (.string ⟨#[]⟩)
    rw [hr.out]
    exact bodyPost_ret (v := .tuple #[.agg #[.bool false, .string ⟨#[]⟩, .string ⟨#[]⟩], .int .i64 fe]) (by simp [results, Tryz.results167, go_sem, S.c0, S.c1, S.c2]) rfl ⟨⟨false, ⟨#[]⟩, ⟨#[]⟩⟩, rfl, HE.out, hch.store3 (.inr (Nat.le_refl _)) _ _ _⟩

end Go.Proofs.YtogciehmdlfkfaaGreatDoor

/- Part Q9. -/

namespace Go.Proofs.YtogciehmdlfkfaaGreatDoor
open Go.RowKit Nd

/-- The pieces ahead of and behind the first byte c. -/
def cutAt : List UInt8 → UInt8 → Option (List UInt8 × List UInt8)
  | [], _ => none
  | b :: l, c => if b = c then some ([], l) else match cutAt l c with | some (x, y) => some (b :: x, y) | none => none
theorem cutAt_none {c : UInt8} : ∀ {l : List UInt8}, Lib.indexByte l c = -1 → cutAt l c = none
  | [], _ => rfl
  | b :: l, h => by
    have h1 := Lib.indexByte_none h 0
    have hb : b ≠ c := by intro he; apply h1; simp [he]
    have h2 : Lib.indexByte l c = -1 := by
      unfold Lib.indexByte at h
      have hbf : (b == c) = false := by simpa using hb
      rw [hbf] at h
      simp only [Bool.false_eq_true, if_false] at h
      split at h
      · rename_i h3; simpa using h3
      · have := Lib.indexByte_ge l c; omega
    rw [cutAt, if_neg hb, cutAt_none h2]
theorem cutAt_some {c : UInt8} : ∀ {l : List UInt8} {o : Nat}, Lib.indexByte l c = o → cutAt l c = some (l.take o, l.drop (o + 1))
  | [], o, h => by simp [Lib.indexByte] at h
  | b :: l, o, h => by
    unfold Lib.indexByte at h
    by_cases hb : b = c
    · have hbt : (b == c) = true := by simpa using hb
      rw [hbt] at h
      simp only [if_true] at h
      obtain rfl : o = 0 := by omega
      rw [cutAt, if_pos hb]; simp
    · have hbf : (b == c) = false := by simpa using hb
      rw [hbf] at h
      simp only [Bool.false_eq_true, if_false] at h
      split at h
      · omega
      · have hge := Lib.indexByte_ge l c
        rename_i h3
        have hne : Lib.indexByte l c ≠ -1 := by simpa using h3
        obtain ⟨k, rfl⟩ : ∃ k, o = k + 1 := ⟨o - 1, by omega⟩
        have := cutAt_some (l := l) (c := c) (o := k) (by omega)
        rw [cutAt, if_neg hb, this]; simp

set_option maxRecDepth 20000 in
set_option maxHeartbeats 400000 in
theorem cut_none (s : ByteArray) (c : UInt8) (w : World) (_hs : s.size ≤ 1099511627776) (h : Lib.indexByte s.data.toList c = -1) :
    Calls Tryz.prog 38 #[.string s, .string ⟨#[c]⟩] w fun e w' => e = .returned (.tuple #[.string s, .string ⟨#[]⟩, .bool false]) ∧ Chg [] w w' := by
  have H := Lib.hid h
  clear h
  have key : Calls Tryz.prog 59 #[.string s, .string ⟨#[c]⟩] w fun e w' => e = .returned (.tuple #[.string s, .string ⟨#[]⟩, .bool false]) ∧ Chg [] w w' := by
    go_enter Tryz.func59, Tryz.ntmps59
    go_wp2_with fail
    refine (Tryz.stringslite_Index_one s c _).mono ?_
    rintro e w' ⟨rfl, rfl⟩
    rw [H.out]
    go_wp2_with fail
    go_ret3
    exact ⟨rfl, Chg.refl _ _⟩
  go_enter Tryz.func38, Tryz.ntmps38
  go_wp2_with fail
  refine key.mono ?_
  rintro e w' ⟨rfl, c1⟩
  go_wp2_with fail
  go_ret3
  exact ⟨rfl, c1⟩

set_option maxRecDepth 20000 in
set_option maxHeartbeats 400000 in
theorem cut_some (s : ByteArray) (c : UInt8) (o : Nat) (w : World) (hs : s.size ≤ 1099511627776) (h : Lib.indexByte s.data.toList c = o) :
    Calls Tryz.prog 38 #[.string s, .string ⟨#[c]⟩] w fun e w' => e = .returned (.tuple #[.string (s.extract 0 o), .string (s.extract (o + 1) s.size), .bool true]) ∧ Chg [] w w' := by
  have hlt : o < s.size := by
    have h1 := (Lib.indexByte_some h).1
    have := (List.getElem?_eq_some_iff.1 h1).1
    rw [size_len] at this
    exact this
  have H := Lib.hid h
  clear h
  have key : Calls Tryz.prog 59 #[.string s, .string ⟨#[c]⟩] w fun e w' => e = .returned (.tuple #[.string (s.extract 0 o), .string (s.extract (o + 1) s.size), .bool true]) ∧ Chg [] w w' := by
    have hch : Chg [] w w.drew := (Chg.refl _ _).drew
    go_enter Tryz.func59, Tryz.ntmps59
    go_wp2_with fail
    refine (Tryz.stringslite_Index_one s c _).mono ?_
    rintro e w' ⟨rfl, rfl⟩
    rw [H.out]
    go_wp2_with fail
    go_region
    all_goals
      go_wp2_with fail
      go_ret3
      exact ⟨rfl, hch⟩
  go_enter Tryz.func38, Tryz.ntmps38
  go_wp2_with fail
  refine key.mono ?_
  rintro e w' ⟨rfl, c1⟩
  go_wp2_with fail
  go_ret3
  exact ⟨rfl, c1⟩

def negP (l : List UInt8) : Bool := Lib.hasPrefix l [45]
def bodyP (l : List UInt8) : List UInt8 := Lib.trimPrefix l [45]
def parseP (l : List UInt8) : Int × Rat :=
  match cutAt (bodyP l) 47 with
  | some (a, b) => (quoE a b, quoQ (negP l) a b)
  | none => match cutAt (bodyP l) 46 with
    | some (a, b) => (decE a b, decQ (negP l) a b)
    | none => (quoE (bodyP l) [49], quoQ (negP l) (bodyP l) [49])
theorem bodyP_len (l : List UInt8) : (bodyP l).length ≤ l.length := by unfold bodyP Lib.trimPrefix; split <;> simp
theorem ext_take (s : ByteArray) (o : Nat) : (s.extract 0 o).data.toList = s.data.toList.take o := by simp
theorem ext_drop (s : ByteArray) (o : Nat) : (s.extract o s.size).data.toList = s.data.toList.drop o := by
  rw [Lib.extract_data]
  exact List.take_of_length_le (by rw [List.length_drop, size_len]; omega)
theorem ext_size (s : ByteArray) (a b : Nat) : (s.extract a b).size ≤ s.size := by
  rw [← size_len, Lib.extract_data, ← size_len]; simp only [List.length_take, List.length_drop]; omega

set_option maxRecDepth 20000 in
set_option maxHeartbeats 1000000 in
theorem Parse_any (s : ByteArray) (w : World) (hs : s.size ≤ 1099511627776) :
    Calls Tryz.prog 147 #[.string s] w fun e w' => ∃ x, e = .returned (.tuple #[.agg #[.bool x.neg, .string x.num, .string x.den], .int .i64 (parseP s.data.toList).1]) ∧ Enc x (parseP s.data.toList).2 ∧ Chg [] w w' := by
  have b0 := Blk3.alloc w (.bool false) (.string ⟨#[]⟩) (.string ⟨#[]⟩) 25
  have hch : Chg [] w (w.alloc (.cells #[.bool false, .string ⟨#[]⟩, .string ⟨#[]⟩] 25)) := (Chg.refl _ _).alloc _
  obtain ⟨r, HR⟩ := name_it (parseP s.data.toList).1
  obtain ⟨q, HQ⟩ := name_it (parseP s.data.toList).2
  rw [HR.out, HQ.out]
  obtain ⟨t, HT⟩ := name_it (⟨(Lib.trimPrefix s.data.toList [45]).toArray⟩ : ByteArray)
  have htl : Hid (t.data.toList = bodyP s.data.toList) := by show _ = _; rw [← HT.out]; rfl
  have zt : t.size ≤ 1099511627776 := by
    rw [← size_len, htl.out]
    have := bodyP_len s.data.toList
    rw [size_len] at this; omega
  obtain ⟨neg, HN⟩ := name_it (Lib.hasPrefix s.data.toList [45])
  have hneg : Hid (negP s.data.toList = neg) := HN
  go_enter Tryz.func147, Tryz.ntmps147
  go_wp2_with fail
  refine (Tryz.strings_CutPrefix s ⟨#[45]⟩ _).mono ?_
  rintro e w1 ⟨rfl, rfl⟩
  rw [show (⟨(Lib.trimPrefix s.data.toList (⟨#[45]⟩ : ByteArray).data.toList).toArray⟩ : ByteArray) = t from HT.out, show Lib.hasPrefix s.data.toList (⟨#[45]⟩ : ByteArray).data.toList = neg from HN.out]
  go_wp2_with fail
  by_cases h1 : Lib.indexByte t.data.toList 47 = -1
  · have C1 := Lib.hid (cutAt_none h1)
    refine (cut_none t 47 _ zt h1).mono ?_
    rintro e w1 ⟨rfl, c1⟩
    clear h1
    replace b0 := b0.keep c1 (by simp)
    replace hch := hch.then c1
    clear c1
    go_wp2_with fail
    by_cases h2 : Lib.indexByte t.data.toList 46 = -1
    · have C2 := Lib.hid (cutAt_none h2)
      have hr : Hid (r = quoE t.data.toList [49]) := by
        show _ = _
        rw [← HR.out]; unfold parseP; rw [← htl.out, C1.out, C2.out]
      have hq : Hid (q = quoQ neg t.data.toList [49]) := by
        show _ = _
        rw [← HQ.out]; unfold parseP; rw [← htl.out, C1.out, C2.out, hneg.out]
      refine (cut_none t 46 _ zt h2).mono ?_
      rintro e w2 ⟨rfl, c1⟩
      clear h2
      replace b0 := b0.keep c1 (by simp)
      replace hch := hch.then c1
      clear c1
      go_wp2_with fail
      refine (parseQuotient_any neg t ⟨#[49]⟩ _ zt (by decide)).mono ?_
      rintro e w1 ⟨x, rfl, hx, c1⟩
      replace b0 := b0.keep c1 (by simp)
      replace hch := hch.then c1
      clear c1
      rw [show _ = q from hq.out.symm] at hx
      have HX := Lib.hid hx
      clear hx
      have b0c0 := b0.c0
      have b0c1 := b0.c1
      have b0c2 := b0.c2
      have b0f0 := b0.f0
      have b0f1 := b0.f1
      have b0f2 := b0.f2
      have b0l := b0.lt
      go_wp2_with fail
      have S := b0.store (.bool x.neg) (.string x.num) (.string x.den)
      rw [hr.out]
      exact bodyPost_ret (v := .tuple #[.agg #[.bool x.neg, .string x.num, .string x.den], .int .i64 (_)]) (by simp [results, Tryz.results147, go_sem, S.c0, S.c1, S.c2]) rfl ⟨x, rfl, HX.out, hch.store3 (.inr (Nat.le_refl _)) _ _ _⟩
    · obtain ⟨i, hi⟩ : ∃ i : Nat, Lib.indexByte t.data.toList 46 = i := ⟨(Lib.indexByte t.data.toList 46).toNat, by have := Lib.indexByte_ge t.data.toList 46; omega⟩
      have C2 := Lib.hid (cutAt_some hi)
      have hr : Hid (r = decE (t.extract 0 i).data.toList (t.extract (i + 1) t.size).data.toList) := by
        show _ = _
        rw [← HR.out, ext_take, ext_drop]; unfold parseP; rw [← htl.out, C1.out, C2.out]
      have hq : Hid (q = decQ neg (t.extract 0 i).data.toList (t.extract (i + 1) t.size).data.toList) := by
        show _ = _
        rw [← HQ.out, ext_take, ext_drop]; unfold parseP; rw [← htl.out, C1.out, C2.out, hneg.out]
      refine (cut_some t 46 i _ zt hi).mono ?_
      rintro e w2 ⟨rfl, c1⟩
      clear hi h2
      replace b0 := b0.keep c1 (by simp)
      replace hch := hch.then c1
      clear c1
      have za := ext_size t 0 i
      have zb := ext_size t (i + 1) t.size
      obtain ⟨A, HA⟩ := name_it (t.extract 0 i)
      obtain ⟨D, HD⟩ := name_it (t.extract (i + 1) t.size)
      rw [HA.out] at za hr hq ⊢
      rw [HD.out] at zb hr hq ⊢
      go_wp2_with fail
      refine (parseDecimal_any neg A D _ (by omega) (by omega)).mono ?_
      rintro e w1 ⟨x, rfl, hx, c1⟩
      replace b0 := b0.keep c1 (by simp)
      replace hch := hch.then c1
      clear c1
      rw [show _ = q from hq.out.symm] at hx
      have HX := Lib.hid hx
      clear hx
      have b0c0 := b0.c0
      have b0c1 := b0.c1
      have b0c2 := b0.c2
      have b0f0 := b0.f0
      have b0f1 := b0.f1
      have b0f2 := b0.f2
      have b0l := b0.lt
      go_wp2_with fail
      have S := b0.store (.bool x.neg) (.string x.num) (.string x.den)
      rw [hr.out]
      exact bodyPost_ret (v := .tuple #[.agg #[.bool x.neg, .string x.num, .string x.den], .int .i64 (_)]) (by simp [results, Tryz.results147, go_sem, S.c0, S.c1, S.c2]) rfl ⟨x, rfl, HX.out, hch.store3 (.inr (Nat.le_refl _)) _ _ _⟩
  · obtain ⟨i, hi⟩ : ∃ i : Nat, Lib.indexByte t.data.toList 47 = i := ⟨(Lib.indexByte t.data.toList 47).toNat, by have := Lib.indexByte_ge t.data.toList 47; omega⟩
    have C1 := Lib.hid (cutAt_some hi)
    have hr : Hid (r = quoE (t.extract 0 i).data.toList (t.extract (i + 1) t.size).data.toList) := by
      show _ = _
      rw [← HR.out, ext_take, ext_drop]; unfold parseP; rw [← htl.out, C1.out]
    have hq : Hid (q = quoQ neg (t.extract 0 i).data.toList (t.extract (i + 1) t.size).data.toList) := by
      show _ = _
      rw [← HQ.out, ext_take, ext_drop]; unfold parseP; rw [← htl.out, C1.out, hneg.out]
    refine (cut_some t 47 i _ zt hi).mono ?_
    rintro e w1 ⟨rfl, c1⟩
    clear hi h1
    replace b0 := b0.keep c1 (by simp)
    replace hch := hch.then c1
    clear c1
    have za := ext_size t 0 i
    have zb := ext_size t (i + 1) t.size
    obtain ⟨A, HA⟩ := name_it (t.extract 0 i)
    obtain ⟨D, HD⟩ := name_it (t.extract (i + 1) t.size)
    rw [HA.out] at za hr hq ⊢
    rw [HD.out] at zb hr hq ⊢
    go_wp2_with fail
    refine (parseQuotient_any neg A D _ (by omega) (by omega)).mono ?_
    rintro e w1 ⟨x, rfl, hx, c1⟩
    replace b0 := b0.keep c1 (by simp)
    replace hch := hch.then c1
    clear c1
    rw [show _ = q from hq.out.symm] at hx
    have HX := Lib.hid hx
    clear hx
    have b0c0 := b0.c0
    have b0c1 := b0.c1
    have b0c2 := b0.c2
    have b0f0 := b0.f0
    have b0f1 := b0.f1
    have b0f2 := b0.f2
    have b0l := b0.lt
    go_wp2_with fail
    have S := b0.store (.bool x.neg) (.string x.num) (.string x.den)
    rw [hr.out]
    exact bodyPost_ret (v := .tuple #[.agg #[.bool x.neg, .string x.num, .string x.den], .int .i64 (_)]) (by simp [results, Tryz.results147, go_sem, S.c0, S.c1, S.c2]) rfl ⟨x, rfl, HX.out, hch.store3 (.inr (Nat.le_refl _)) _ _ _⟩

end Go.Proofs.YtogciehmdlfkfaaGreatDoor
