/-
  Add, Next.
-/
import Derived.Test.YtfmbekdhkilflaaC4
namespace Go.Proofs.Ytfmbekdhkilflaa
open Go.RowKit Go.Sort

/-- A pair of ints as a result. -/
def two (a b : Int) : Value := .tuple #[.int .i64 a, .int .i64 b]
def addOut : Option Int → Value
  | some d => two d 0
  | none => two 0 1
/-- What Add answers. -/
def AddR (zs : List Int) (d n : Int) (o : Value) : Prop :=
  if 1000 < zs.length then o = two 0 2
  else if isd d = false ∨ n < 0 ∨ 1048576 < n then o = two 0 1
  else ∃ v, Nth zs (if n = 0 then d else d + 1) (n - 1).toNat v ∧ o = addOut v
theorem AddR.long {zs : List Int} {d n : Int} (h : 1000 < zs.length) : AddR zs d n (two 0 2) := by unfold AddR; rw [if_pos h]
theorem AddR.range {zs : List Int} {d n : Int} (h : zs.length ≤ 1000) (h2 : isd d = false ∨ n < 0 ∨ 1048576 < n) : AddR zs d n (two 0 1) := by
  unfold AddR; rw [if_neg (by omega), if_pos h2]
theorem AddR.ok {zs : List Int} {d n : Int} {v : Option Int} (h : zs.length ≤ 1000) (h1 : isd d = true) (h2 : 0 ≤ n) (h3 : n ≤ 1048576) (h4 : Nth zs (if n = 0 then d else d + 1) (n - 1).toNat v) : AddR zs d n (addOut v) := by
  unfold AddR
  rw [if_neg (by omega), if_neg (by rintro (h5 | h5 | h5) <;> first | omega | (rw [h1] at h5; cases h5))]
  exact ⟨v, h4, rfl⟩
theorem AddR.unique {zs : List Int} {d n : Int} {o o' : Value} (h : AddR zs d n o) (h' : AddR zs d n o') : o = o' := by
  unfold AddR at h h'
  by_cases c : 1000 < zs.length
  · rw [if_pos c] at h h'; rw [h, h']
  · rw [if_neg c] at h h'
    by_cases c2 : isd d = false ∨ n < 0 ∨ 1048576 < n
    · rw [if_pos c2] at h h'; rw [h, h']
    · rw [if_neg c2] at h h'
      obtain ⟨v, h1, rfl⟩ := h
      obtain ⟨v', h1', rfl⟩ := h'
      rw [h1.unique h1']
theorem AddR.get {zs : List Int} {d n : Int} {o : Value} (h : AddR zs d n o) (h1 : zs.length ≤ 1000) (h2 : isd d = true) (h3 : 0 ≤ n) (h4 : n ≤ 1048576) : ∃ v, Nth zs (if n = 0 then d else d + 1) (n - 1).toNat v ∧ o = addOut v := by
  unfold AddR at h
  rwa [if_neg (by omega), if_neg (by rintro (h5 | h5 | h5) <;> first | omega | (rw [h2] at h5; cases h5))] at h

theorem AddR.form {zs : List Int} {d n : Int} {o : Value} (h : AddR zs d n o) : ∃ a c, o = two a c := by
  unfold AddR at h
  split at h
  · exact ⟨_, _, h⟩
  · split at h
    · exact ⟨_, _, h⟩
    · obtain ⟨v, _, rfl⟩ := h
      cases v with
      | none => exact ⟨0, 1, rfl⟩
      | some x => exact ⟨x, 0, rfl⟩
set_option maxRecDepth 20000 in
set_option maxHeartbeats 2000000 in
theorem add_any (zs : List Int) (d n : Int) (l : Nat) (A : Option Addr) (cap : Nat) (w : World) (_ : I64 d) (hn : I64 n) (hl : zs.length = l) (hl2 : l ≤ 9223372036854775807) (hz : ∀ x, x ∈ zs → I64 x) (hx : RdZ w A zs) :
    Calls Try.prog 20 #[.int .i64 d, .int .i64 n, .slice A l cap] w fun e w' => ∃ o, e = .returned o ∧ AddR zs d n o ∧ Chg [] w w' := by
  have hch : Chg [] w w := Chg.refl _ _
  obtain ⟨n1, n2⟩ := hn
  by_cases hlong : 1000 < l
  · have HR := Lib.hid (AddR.long (zs := zs) (d := d) (n := n) (by rw [hl]; exact hlong))
    clear hl hz hx
    have d1 : decide ((1000 : Int) < (l : Int)) = true := decide_eq_true (by omega)
    go_enter Try.func20, Try.ntmps20
    go_wp2_with fail
    go_ret2
    exact ⟨_, rfl, HR.out, hch⟩
  · have d1 : decide ((1000 : Int) < (l : Int)) = false := decide_eq_false (by omega)
    cases hisd : isd d with
    | false =>
      have HR := Lib.hid (AddR.range (zs := zs) (d := d) (n := n) (by rw [hl]; omega) (.inl hisd))
      have HI := Lib.hid hisd
      clear hl hz hx hisd
      go_enter Try.func20, Try.ntmps20
      go_wp2_with (go_at_call 26; refine (isDay_any d _ false HI.out).mono ?_; rintro e w' ⟨rfl, hw⟩; obtain rfl := hw.symm; clear hw)
      go_ret2
      exact ⟨_, rfl, HR.out, hch⟩
    | true =>
      obtain ⟨i1, i2⟩ := isd_yes hisd
      have HI := Lib.hid hisd
      by_cases hneg : n < 0
      · have HR := Lib.hid (AddR.range (zs := zs) (d := d) (n := n) (by rw [hl]; omega) (.inr (.inl hneg)))
        have d2 : decide (n < 0) = true := decide_eq_true hneg
        clear hl hz hx hisd hneg
        go_enter Try.func20, Try.ntmps20
        go_wp2_with (go_at_call 26; refine (isDay_any d _ true HI.out).mono ?_; rintro e w' ⟨rfl, hw⟩; obtain rfl := hw.symm; clear hw)
        go_ret2
        exact ⟨_, rfl, HR.out, hch⟩
      · have d2 : decide (n < 0) = false := decide_eq_false hneg
        by_cases hbig : 1048576 < n
        · have HR := Lib.hid (AddR.range (zs := zs) (d := d) (n := n) (by rw [hl]; omega) (.inr (.inr hbig)))
          have d3 : decide (1048576 < n) = true := decide_eq_true hbig
          clear hl hz hx hisd hneg hbig
          go_enter Try.func20, Try.ntmps20
          go_wp2_with (go_at_call 26; refine (isDay_any d _ true HI.out).mono ?_; rintro e w' ⟨rfl, hw⟩; obtain rfl := hw.symm; clear hw)
          go_ret2
          exact ⟨_, rfl, HR.out, hch⟩
        · have d3 : decide (1048576 < n) = false := decide_eq_false hbig
          have HOK := Lib.hid (fun v => AddR.ok (zs := zs) (d := d) (n := n) (v := v) (by rw [hl]; omega) hisd (by omega) (by omega))
          have hn0 : 0 ≤ n := by omega
          have hnM : n ≤ 1048576 := by omega
          have HLZ := Lib.hid (fun a m (ha : 0 ≤ a) (ha2 : a ≤ 1048577) (hm : m ≤ 1048576) => later_any zs a m l A cap w ha ha2 hm hl (by omega) hz hx)
          clear hl hz hx hisd hneg hbig
          by_cases h0 : n = 0
          · subst h0
            have HL0 := Lib.hid (HLZ.out d 0 i1 (by omega) (by omega))
            clear HLZ
            go_enter Try.func20, Try.ntmps20
            go_upto_region 9 with (first
              | (go_at_call 26; refine (isDay_any d _ true HI.out).mono ?_; rintro e w' ⟨rfl, hw⟩; obtain rfl := hw.symm; clear hw)
              | (go_at_call 30; refine HL0.out.mono ?_; rintro e w1 ⟨x, rfl, hlat, c1⟩; have HLAT := Lib.hid hlat; clear hlat))
            obtain ⟨x0, x1, x2⟩ := HLAT.out
            have HX := Lib.hid x2
            clear x2
            by_cases c : x ≤ 1048576
            · have HB : Hid (isd x = true) := Lib.hid (decide_eq_true ⟨x0, c⟩)
              have HX2 : Hid (AddR zs d 0 (two x 0)) := Lib.hid (by
                have := HX.out
                rw [if_pos c] at this
                exact HOK.out (some x) this)
              clear c
              go_wp2_with (go_at_call 26; refine (isDay_any x _ true HB.out).mono ?_; rintro e w' ⟨rfl, hw⟩; obtain rfl := hw.symm; clear hw)
              go_ret2
              exact ⟨_, rfl, HX2.out, hch.then c1⟩
            · have HB : Hid (isd x = false) := Lib.hid (decide_eq_false (fun h => c h.2))
              have HX2 : Hid (AddR zs d 0 (two 0 1)) := Lib.hid (by
                have := HX.out
                rw [if_neg c] at this
                exact HOK.out none this)
              clear c
              go_wp2_with (go_at_call 26; refine (isDay_any x _ false HB.out).mono ?_; rintro e w' ⟨rfl, hw⟩; obtain rfl := hw.symm; clear hw)
              go_ret2
              exact ⟨_, rfl, HX2.out, hch.then c1⟩
          · have HL1 := Lib.hid (HLZ.out (d + 1) (n - 1).toNat (by omega) (by omega) (by omega))
            have hcast : ((n - 1).toNat : Int) = n - 1 := by omega
            rw [hcast] at HL1
            have HIF : Hid ((if n = 0 then d else d + 1) = d + 1) := Lib.hid (if_neg h0)
            have e0 : (n == 0) = false := by simp; exact h0
            have p1 : 0 ≤ n - 1 := by omega
            clear HLZ h0 hcast
            go_enter Try.func20, Try.ntmps20
            go_upto_region 9 with (first
              | (go_at_call 26; refine (isDay_any d _ true HI.out).mono ?_; rintro e w' ⟨rfl, hw⟩; obtain rfl := hw.symm; clear hw)
              | (go_at_call 30; refine HL1.out.mono ?_; rintro e w1 ⟨x, rfl, hlat, c1⟩; have HLAT := Lib.hid hlat; clear hlat))
            obtain ⟨x0, x1, x2⟩ := HLAT.out
            have HX := Lib.hid x2
            clear x2
            by_cases c : x ≤ 1048576
            · have HB : Hid (isd x = true) := Lib.hid (decide_eq_true ⟨x0, c⟩)
              have HX2 : Hid (AddR zs d n (two x 0)) := Lib.hid (by
                have := HX.out
                rw [if_pos c] at this
                exact HOK.out (some x) (by rw [HIF.out]; exact this))
              clear c
              go_wp2_with (go_at_call 26; refine (isDay_any x _ true HB.out).mono ?_; rintro e w' ⟨rfl, hw⟩; obtain rfl := hw.symm; clear hw)
              go_ret2
              exact ⟨_, rfl, HX2.out, hch.then c1⟩
            · have HB : Hid (isd x = false) := Lib.hid (decide_eq_false (fun h => c h.2))
              have HX2 : Hid (AddR zs d n (two 0 1)) := Lib.hid (by
                have := HX.out
                rw [if_neg c] at this
                exact HOK.out none (by rw [HIF.out]; exact this))
              clear c
              go_wp2_with (go_at_call 26; refine (isDay_any x _ false HB.out).mono ?_; rintro e w' ⟨rfl, hw⟩; obtain rfl := hw.symm; clear hw)
              go_ret2
              exact ⟨_, rfl, HX2.out, hch.then c1⟩

set_option maxRecDepth 20000 in
theorem next_any (zs : List Int) (d : Int) (l : Nat) (A : Option Addr) (cap : Nat) (w : World) (hd : I64 d) (hl : zs.length = l) (hl2 : l ≤ 9223372036854775807) (hz : ∀ x, x ∈ zs → I64 x) (hx : RdZ w A zs) :
    Calls Try.prog 18 #[.int .i64 d, .slice A l cap] w fun e w' => ∃ a c, e = .returned (two a c) ∧ AddR zs d 0 (two a c) ∧ Chg [] w w' := by
  have HC := Lib.hid (add_any zs d 0 l A cap w hd ⟨by omega, by omega⟩ hl hl2 hz hx)
  clear hl hz hx
  go_enter Try.func18, Try.ntmps18
  go_wp2_with (go_at_call 20; refine HC.out.mono ?_; rintro e w1 ⟨o, rfl, hr, c1⟩; obtain ⟨a, c, rfl⟩ := hr.form; have HR := Lib.hid hr; clear hr; unfold two)
  go_ret2
  exact ⟨a, c, rfl, HR.out, c1⟩
end Go.Proofs.Ytfmbekdhkilflaa
