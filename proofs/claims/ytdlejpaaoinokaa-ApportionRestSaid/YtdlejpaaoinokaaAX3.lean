/-
  Apportion: the comparison of two remainders; the stable sort of at most twenty places.
-/
import Derived.Test.YtdlejpaaoinokaaAX1
import Derived.Test.YtdlejpaaoinokaaGC
namespace Go.Proofs.Ytdlejpaaoinokaa
open Go.RowKit Nd

/-- The comparison's surroundings: the remainders s, their values r. -/
structure Cmp (w : World) (gx gr n K : Nat) (s : Nat → ByteArray) (r : Nat → Nat) : Prop where
  box : C1 w gx 0 (.slice (some ⟨gr, 0, none⟩) n n)
  row : Fb w gr n (fun j => .string (s j))
  num : ∀ j, j < n → Is (s j) (r j) ∧ (s j).size ≤ K
  le : K ≤ 1000000000
theorem Cmp.keep {gs : List Nat} {w w' : World} {gx gr n K : Nat} {s : Nat → ByteArray} {r : Nat → Nat} (h : Cmp w gx gr n K s r) (hc : Chg gs w w') (h1 : gx ∉ gs) (h2 : gr ∉ gs) : Cmp w' gx gr n K s r :=
  ⟨h.box.keep hc h1, h.row.keep hc h2, h.num, h.le⟩
theorem Cmp.keep0 {w w' : World} {gx gr n K : Nat} {s : Nat → ByteArray} {r : Nat → Nat} (h : Cmp w gx gr n K s r) (hc : Chg [] w w') : Cmp w' gx gr n K s r := h.keep hc (by simp) (by simp)

set_option maxRecDepth 20000 in
set_option maxHeartbeats 1000000 in
theorem cmpR_any (i j n gx gr K : Nat) (s : Nat → ByteArray) (r : Nat → Nat) (w : World) (hi : i < n) (hj : j < n) (h : Cmp w gx gr n K s r) :
    Calls Try.prog 56 #[.int .i64 i, .int .i64 j, .pointer (some ⟨gx, 0, none⟩)] w fun e w' => e = .returned (.int .i64 (ord (r j) (r i))) ∧ Chg [] w w' := by
  have hch : Chg [] w w := Chg.refl _ _
  have hb := h.box.c0
  have hc1 : w.cell? ⟨gr, i, none⟩ = some (.string (s i)) := h.row.cell i hi
  have hc2 : w.cell? ⟨gr, j, none⟩ = some (.string (s j)) := h.row.cell j hj
  have HI := Lib.hid (h.num i hi)
  have HJ := Lib.hid (h.num j hj)
  have hK := h.le
  obtain ⟨x, HX⟩ := name_it (s i)
  obtain ⟨y, HY⟩ := name_it (s j)
  rw [HX.out] at hc1 HI
  rw [HY.out] at hc2 HJ
  have HCP : Hid (∀ w, Calls Try.prog 57 #[.string y, .string x] w fun e w' => e = .returned (.int .i64 (ord (r j) (r i))) ∧ w = w') := Lib.hid fun w => by
    have := compare_any y x w (by have := HJ.out.2; omega) (by have := HI.out.2; omega)
    rw [Is_val HJ.out.1, Is_val HI.out.1] at this
    exact this
  obtain ⟨v, HV⟩ := name_it (ord (r j) (r i))
  rw [HV.out] at HCP
  rw [HV.out]
  have i1 : (0 : Int) ≤ (i : Int) := by omega
  have i2 : (i : Int) < (n : Int) := by omega
  have j1 : (0 : Int) ≤ (j : Int) := by omega
  have j2 : (j : Int) < (n : Int) := by omega
  clear h hi hj hK HX HY HI HJ HV
  go_enter Try.func56, Try.ntmps56
  go_wp2_with fail
  go_quiet ((go_at_call 57; exact Calls.quiet_of_same ((HCP.out _).mono fun _ _ h => ⟨h.1, h.2.symm⟩)))
  go_wp2_with fail
  go_ret
  exact ⟨rfl, hch.drewN _⟩
theorem ord_neg (a b : Nat) : decide (ord a b < 0) = decide (a < b) := by
  rcases Nat.lt_trichotomy a b with h | h | h
  · rw [ord_lt h]; simp [h]
  · subst h; rw [show ord a a = 0 by simp [ord]]; simp
  · rw [ord_gt h]; simp; omega

/-- The comparison as a value. -/
abbrev cmpV (gx : Nat) : Value := .func (.func 56) #[] #[.pointer (some ⟨gx, 0, none⟩)]
set_option maxRecDepth 20000 in
set_option maxHeartbeats 4000000 in
theorem isort_any (n m gx gr go cap K : Nat) (s : Nat → ByteArray) (r : Nat → Nat) (w : World) (hm : m ≤ n) (hn : n ≤ 1000000) (h : Cmp w gx gr n K s r) (hne : go ≠ gx) (hne2 : go ≠ gr) (hf : Fb w go n (fun a => .int .i64 ((a : Nat) : Int))) :
    Calls Try.prog 102 #[.slice (some ⟨go, 0, none⟩) n cap, .int .i64 0, .int .i64 m, cmpV gx] w fun e w' => e = .returned (.tuple #[]) ∧ ∃ o, Fb w' go n (fun a => .int .i64 ((o a : Nat) : Int)) ∧ ApO r o m ∧ Chg [go] w w' := by
  have hch : Chg [go] w w := Chg.refl _ _
  go_enter Try.func102, Try.ntmps102
  go_wp2_with fail
  go_loopw [8] (fun iv wr => ∃ (i : Nat) (o : Nat → Nat), 1 ≤ i ∧ (i ≤ m ∨ i = 1) ∧ iv = .int .i64 i ∧ ApO r o i ∧ (i = 1 → o = fun a => a) ∧ Fb wr go n (fun a => .int .i64 ((o a : Nat) : Int)) ∧ Cmp wr gx gr n K s r ∧ Chg [go] w wr) (fun iv _ => m + 1 - (intOf iv).toNat)
  case atStart => exact ⟨1, fun a => a, Nat.le_refl _, .inr rfl, by go_num, ApO.one r, fun _ => rfl, hf, h, hch⟩
  case round =>
    clear hf h hch
    obtain ⟨i, o, hi1, him, rfl, ho, hid1, hf, hcm, hch⟩ := hrel
    have HO := Lib.hid ho
    have HID := Lib.hid hid1
    clear ho hid1
    by_cases hlt : i < m
    · go_wp2_with fail
      go_loopw [9] (fun jv wj => ∃ (j : Nat) (o : Nat → Nat), j ≤ i ∧ jv = .int .i64 j ∧ ApI r o i j ∧ Fb wj go n (fun a => .int .i64 ((o a : Nat) : Int)) ∧ Cmp wj gx gr n K s r ∧ Chg [go] w wj) (fun jv _ => (intOf jv).toNat)
      case atStart => exact ⟨i, o, Nat.le_refl _, rfl, HO.out.enter, hf, hcm, hch⟩
      case round =>
        clear hf hcm hch HO HID
        obtain ⟨j, o, hj, rfl, hap, hf, hcm, hch⟩ := hrel
        have HAP := Lib.hid hap
        clear hap
        by_cases hj0 : j = 0
        · subst hj0
          have HNX := Lib.hid (HAP.out.stop (.inl rfl))
          have d1 : decide ((0 : Int) < ((0 : Nat) : Int)) = false := by decide
          go_wp2_with fail
          go_quiet (fail)
          go_wp2_with fail
          go_roundw
          case rel => exact ⟨i + 1, o, by omega, .inl (by omega), by go_num, HNX.out, fun h => absurd h (by omega), hf.keep0 ((Chg.refl [] _).drewN _), hcm.keep0 ((Chg.refl [] _).drewN _), hch.drewN _⟩
          case measure => simp [intOf]; omega
        · obtain ⟨p, HP⟩ : ∃ p, Hid (j = p + 1) := ⟨j - 1, Lib.hid (by omega)⟩
          have hpj := HP.out
          have hat := HAP.out.at_
          have hlo : o p < i := HAP.out.lt p (by omega) (by omega)
          have a0 : wr.cell? ⟨go, j, none⟩ = some (.int .i64 ((i : Nat) : Int)) := by have := hf.cell j (by omega); rw [hat] at this; exact this
          have a1 : wr.cell? ⟨go, p, none⟩ = some (.int .i64 ((o p : Nat) : Int)) := hf.cell p (by omega)
          obtain ⟨q, HQ⟩ := name_it (o p)
          rw [HQ.out] at a1 hlo
          have HCM := Lib.hid (fun w h => cmpR_any i q n gx gr K s r w (by omega) (by omega) h)
          have HON : Hid (decide (ord (r q) (r i) < 0) = decide (r q < r i)) := Lib.hid (ord_neg _ _)
          obtain ⟨v, HV⟩ := name_it (ord (r q) (r i))
          rw [HV.out] at HCM HON
          have d1 : decide ((0 : Int) < (j : Int)) = true := decide_eq_true (by omega)
          have d1n : decide (0 < j) = true := decide_eq_true (by omega)
          have j1 : (0 : Int) ≤ (j : Int) := by omega
          have j2 : (j : Int) < (n : Int) := by omega
          have j3 : (j : Int) - 1 = (p : Int) := by omega
          have j6 : IntKind.i64.wrap ((j : Int) - 1) = (p : Int) := by rw [IntKind.wrap_i64]; omega
          have j7 : IntKind.i64.wrap (p : Int) = (p : Int) := by rw [IntKind.wrap_i64]; omega
          have j4 : (0 : Int) ≤ (p : Int) := by omega
          have j5 : (p : Int) < (n : Int) := by omega
          have hpn : p < n := by omega
          have hjn : j < n := by omega
          have hjp : j ≠ p := by omega
          have HAX : Hid (apX o j j = q ∧ apX o j p = i ∧ ∀ a, a ≠ j → a ≠ p → apX o j a = o a) := Lib.hid (by
            refine ⟨?_, ?_, fun a h1 h2 => ?_⟩
            · unfold apX; rw [if_pos rfl, show j - 1 = p by omega, HQ.out]
            · unfold apX; rw [if_neg (by omega), if_pos (by omega)]; exact hat
            · unfold apX; rw [if_neg h1, if_neg (by omega)])
          have hcx0 : C1 wr go j (.int .i64 ((i : Nat) : Int)) := ⟨a0, hf.lt⟩
          have hcx1 : C1 wr go p (.int .i64 ((q : Nat) : Int)) := ⟨a1, hf.lt⟩
          clear hat a0 a1 hpj
          have c8 : Chg [] wr wr.drew := (Chg.refl _ _).drew
          replace hf := hf.keep0 c8
          replace hcm := hcm.keep0 c8
          replace hch := hch.then c8
          replace hcx0 := hcx0.keep0 c8
          replace hcx1 := hcx1.keep0 c8
          clear c8
          by_cases hsw : r q < r i
          · have hcs : r (o (j - 1)) < r i := by rw [show j - 1 = p by have := HP.out; omega, HQ.out]; exact hsw
            have HNX := Lib.hid (HAP.out.swap (by omega) hcs)
            have d2 : decide (v < 0) = true := by rw [HON.out]; simp [hsw]
            clear hsw hcs
            go_wp2_with fail
            go_region_held3 (fun w' => w'.cell? ⟨go, j, none⟩ = some (.int .i64 ((i : Nat) : Int)) ∧ w'.cell? ⟨go, p, none⟩ = some (.int .i64 ((q : Nat) : Int))) (first | exact ⟨hcx0.c0, hcx1.c0⟩) (first
              | (go_at_call 56
                 (with_reducible refine (HCM.out _ hcm).mono ?_)
                 rintro e w6 ⟨rfl, c6⟩
                 replace hf := hf.keep0 c6
                 replace hcm := hcm.keep0 c6
                 replace hch := hch.then c6
                 replace hcx0 := hcx0.keep0 c6
                 replace hcx1 := hcx1.keep0 c6
                 clear c6)
              | fail)
            all_goals
              go_wp2_with fail
              have m0 := hcx0.c0
              have m1 := hcx1.c0
              have m2 := hf.frz j hjn
              have m3 := hf.frz p hpn
              have c8 : Chg [] w6 w6.drew := (Chg.refl _ _).drew
              replace hf := hf.keep0 c8
              replace hcm := hcm.keep0 c8
              replace hch := hch.then c8
              have k0 := (hcx0.keep0 c8).c0
              have k1 := (hcx1.keep0 c8).c0
              have k2 := hf.frz j hjn
              have k3 := hf.frz p hpn
              have hS1 : Fb (w6.drew.setCell ⟨go, j, none⟩ (.int .i64 ((q : Nat) : Int))) go n (fun a => .int .i64 ((upd o j q a : Nat) : Int)) := hf.store hjn _ _ (by simp only [upd_at]) (fun t _ e => by simp only [upd_ne _ _ e])
              have hS2 : Fb ((w6.drew.setCell ⟨go, j, none⟩ (.int .i64 ((q : Nat) : Int))).setCell ⟨go, p, none⟩ (.int .i64 ((i : Nat) : Int))) go n (fun a => .int .i64 ((apX o j a : Nat) : Int)) := hS1.store hpn _ _ (by rw [HAX.out.2.1]) (fun t _ e => by
                by_cases g : t = j
                · subst g; rw [HAX.out.1, upd_at]
                · rw [HAX.out.2.2 t g e, upd_ne _ _ g])
              have hcS : Cmp ((w6.drew.setCell ⟨go, j, none⟩ (.int .i64 ((q : Nat) : Int))).setCell ⟨go, p, none⟩ (.int .i64 ((i : Nat) : Int))) gx gr n K s r :=
                hcm.keep (((Chg.refl [go] _).setCell (p := ⟨go, j, none⟩) (.inl (by simp)) _).setCell (p := ⟨go, p, none⟩) (.inl (by simp)) _) (by simp; omega) (by simp; omega)
              have hchS := (hch.setCell (p := ⟨go, j, none⟩) (.inl (by simp)) (.int .i64 ((q : Nat) : Int))).setCell (p := ⟨go, p, none⟩) (.inl (by simp)) (.int .i64 ((i : Nat) : Int))
              clear c8 hf hcm hch hcx0 hcx1 hS1
              go_region
              all_goals
                go_wp2_with fail
                go_roundw
                case rel => exact ⟨p, apX o j, by have := HP.out; omega, rfl, by have := HNX.out; rwa [show j - 1 = p by have := HP.out; omega] at this, hS2, hcS, hchS⟩
                case measure => simp [intOf]; have := HP.out; omega
          · have HNX := Lib.hid (HAP.out.stop (.inr (by rw [show j - 1 = p by have := HP.out; omega, HQ.out]; exact hsw)))
            have d2 : decide (v < 0) = false := by rw [HON.out]; simp [hsw]
            clear hsw
            go_wp2_with fail
            go_region_held3 (fun w' => w'.cell? ⟨go, j, none⟩ = some (.int .i64 ((i : Nat) : Int)) ∧ w'.cell? ⟨go, p, none⟩ = some (.int .i64 ((q : Nat) : Int))) (first | exact ⟨hcx0.c0, hcx1.c0⟩) (first
              | (go_at_call 56
                 (with_reducible refine (HCM.out _ hcm).mono ?_)
                 rintro e w6 ⟨rfl, c6⟩
                 replace hf := hf.keep0 c6
                 replace hcm := hcm.keep0 c6
                 replace hch := hch.then c6
                 replace hcx0 := hcx0.keep0 c6
                 replace hcx1 := hcx1.keep0 c6
                 clear c6)
              | fail)
            all_goals
              go_wp2_with fail
              go_roundw
              case rel => exact ⟨i + 1, o, by omega, .inl (by omega), by go_num, HNX.out, fun h => absurd h (by omega), hf, hcm, hch⟩
              case measure => simp [intOf]; omega
    · have hend : i = m ∨ (m = 0 ∧ i = 1) := by omega
      rcases hend with rfl | ⟨rfl, rfl⟩
      · go_wp2_with fail
        go_end0
        exact ⟨rfl, o, hf, HO.out, hch⟩
      · have ho2 := HID.out rfl
        go_wp2_with fail
        go_end0
        exact ⟨rfl, o, hf, by rw [ho2]; exact ApO.start r, hch⟩
end Go.Proofs.Ytdlejpaaoinokaa
