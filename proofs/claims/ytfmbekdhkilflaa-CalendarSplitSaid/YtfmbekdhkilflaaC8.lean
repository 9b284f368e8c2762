/-
  Of the laws: near, days, awake.
-/
import Derived.Test.YtfmbekdhkilflaaC7
namespace Go.Proofs.Ytfmbekdhkilflaa
open Go.RowKit Go.Sort

theorem wrap64_in (x : Int) : I64 (RowKit.wrap64 x) := by unfold I64 RowKit.wrap64; omega
theorem wrapK_in (x : Int) : I64 (IntKind.i64.wrap x) := by
  rw [IntKind.wrap_i64]
  first | exact wrap64_in x | (unfold I64; omega)

set_option maxRecDepth 20000 in
set_option maxHeartbeats 1000000 in
theorem near_any (d : Int) (w : World) (hd : I64 d) :
    Calls Try.prog 17 #[.int .i64 d] w fun e w' => ∃ v, e = .returned (.int .i64 v) ∧ I64 v ∧ w = w' := by
  have HD := Lib.hid hd
  clear hd
  go_enter Try.func17, Try.ntmps17
  go_wp2
  all_goals
    go_ret
    refine ⟨_, rfl, ?_, rfl⟩
    first | exact HD.out | exact wrap64_in _ | exact wrapK_in _

/-- Bytes that can be read. -/
def RdU (w : World) (A : Option Addr) (L : List Nat) : Prop := 0 < L.length → ∃ b o, A = some ⟨b, o, none⟩ ∧ b < w.heap.size ∧ ∀ j, j < L.length → w.cell? ⟨b, o + j, none⟩ = some (.int .u8 ((L.getD j 0 : Nat) : Int))
theorem RdU.keep0 {w w' : World} {A : Option Addr} {L : List Nat} (h : RdU w A L) (hc : Chg [] w w') : RdU w' A L := by
  intro h0
  obtain ⟨b, o, e, hb, h1⟩ := h h0
  exact ⟨b, o, e, Nat.lt_of_lt_of_le hb hc.size, fun j hj => (hc.cell (p := ⟨b, o + j, none⟩) hb (by simp)).trans (h1 j hj)⟩
/-- The holidays of the laws. -/
def dayz (L : List Nat) : List Int := (L.take 40).map fun x : Nat => (x : Int) % 90
theorem dayz_len (L : List Nat) : (dayz L).length ≤ 40 := by unfold dayz; rw [List.length_map, List.length_take]; omega
theorem dayz_in (L : List Nat) : ∀ x, x ∈ dayz L → I64 x := by
  intro x hx
  obtain ⟨y, _, rfl⟩ := List.mem_map.1 hx
  unfold I64; omega
theorem dayz_snoc (L : List Nat) (k : Nat) (hk : k < L.length) (h40 : k < 40) : dayz (L.take (k + 1)) = dayz (L.take k) ++ [((L.getD k 0 : Nat) : Int) % 90] := by
  unfold dayz
  rw [List.take_of_length_le (by rw [List.length_take]; omega), List.take_of_length_le (l := L.take k) (by rw [List.length_take]; omega), List.take_succ_eq_append_getElem hk, List.map_append]
  have e : L.getD k 0 = L[k] := by rw [List.getD_eq_getElem?_getD, List.getElem?_eq_getElem hk]; rfl
  rw [e]; rfl
theorem dayz_take40 (L : List Nat) : dayz (L.take 40) = dayz L := by
  unfold dayz; rw [List.take_take]; rfl

set_option maxRecDepth 20000 in
set_option maxHeartbeats 2000000 in
theorem days_any (L : List Nat) (n : Nat) (A : Option Addr) (cap : Nat) (w : World) (hl : L.length = n) (hn : n ≤ 9223372036854775807) (hb : ∀ x, x ∈ L → x < 256) (hx : RdU w A L) :
    Calls Try.prog 25 #[.slice A n cap] w fun e w' => ∃ v, e = .returned v ∧ NewZ w w' v (dayz L) := by
  obtain ⟨iI, hiI, hzI0, hzI1, hzI2⟩ := info_split Try.infoInt
  have HL := Lib.hid hl
  have HX0 := Lib.hid hx
  have HB := Lib.hid hb
  have hch : Chg [] w w := Chg.refl _ _
  clear hl hx hb
  go_enter Try.func25, Try.ntmps25
  go_wp2_with fail
  go_loopw [3, 4] (fun lv iv wr => ∃ (k : Nat), k ≤ n ∧ k ≤ 40 ∧ iv = .int .i64 k ∧ OwnZ wr lv (dayz (L.take k)) ∧ (∀ x, x ∈ lv.ownBlock.toList → w.heap.size ≤ x) ∧ Chg [] w wr) (fun _ iv _ => n - (intOf iv).toNat)
  case atStart => exact ⟨0, Nat.zero_le _, by omega, rfl, OwnZ.nil w, by simp [Value.ownBlock], hch⟩
  case round =>
    clear hch
    obtain ⟨k, hk, hk4, rfl, hown, hnew, hch⟩ := hrel
    have hx := HX0.out.keep0 hch
    have HO := Lib.hid hown
    have HW := Lib.hid hnew
    clear hown hnew
    by_cases hlt : k < n
    · have d1 : decide ((k : Int) < (n : Int)) = true := decide_eq_true (by omega)
      by_cases h40 : k < 40
      · have d2 : decide ((k : Int) < 40) = true := decide_eq_true (by omega)
        obtain ⟨g, o, rfl, hg, a0⟩ := hx (by rw [HL.out]; omega)
        have a1 := a0 k (by rw [HL.out]; exact hlt)
        have HS := Lib.hid (dayz_snoc L k (by rw [HL.out]; exact hlt) h40)
        have hzb : L.getD k 0 < 256 := HB.out _ (by
          have hk9 : k < L.length := by rw [HL.out]; exact hlt
          rw [List.getD_eq_getElem?_getD, List.getElem?_eq_getElem hk9]; exact List.getElem_mem hk9)
        obtain ⟨z, HZZ⟩ := name_it (L.getD k 0)
        rw [HZZ.out] at a1 HS hzb
        have i1 : (0 : Int) ≤ (k : Int) := by omega
        have i2 : (k : Int) < (n : Int) := by omega
        clear a0
        obtain ⟨M, HM⟩ := name_it (dayz (L.take k))
        have hlen : M.length ≤ 40 := by rw [← HM.out]; exact dayz_len _
        have hsz4 := hch.size
        have c10 : Chg [] wr (wr.alloc (.cells #[.int .i64 ((z : Int) % 90)] 3)) := (Chg.refl _ _).alloc _
        have hown := HO.out.keep0 c10
        unfold OwnZ at hown
        rw [HM.out] at hown
        have hch4 := hch.then c10
        have hcl : (wr.alloc (.cells #[.int .i64 ((z : Int) % 90)] 3)).cell? ⟨wr.heap.size, 0, none⟩ = some (.int .i64 ((z : Int) % 90)) := by simp
        clear hx hch c10
        go_wp2_with (at_builtin; refine wpList_append1 _ 25 3 iI _ 8 Try.underlying25 hiI hzI0 hzI1 hzI2 rfl (by omega) rfl (.tmp 15) (.tmp 22) rfl _ M.length (valz M) rfl hown ⟨wr.heap.size, 0, none⟩ 1 (.int .i64 ((z : Int) % 90)) rfl hcl rfl (by omega) ?_)
        intro v2 w5 own2 cv2 hv2
        have hO5 : Hid (OwnZ w5 v2 (M ++ [(z : Int) % 90])) := Lib.hid (by
          unfold OwnZ
          rw [List.length_append, List.length_singleton]
          have e : valz (M ++ [(z : Int) % 90]) = valz M ++ [.int .i64 ((z : Int) % 90)] := by simp [valz]
          rw [e]
          exact own2)
        have HW5 : Hid (∀ x, x ∈ v2.ownBlock.toList → w.heap.size ≤ x) := Lib.hid fun x hx => by
          rcases hv2 with h5 | h5
          · rw [h5] at hx; exact HW.out x hx
          · rw [h5] at hx; simp at hx; omega
        have hch5 := Lib.hid (hch4.trans cv2 (fun x hx => .inr (HW.out x hx)))
        clear hch4 cv2 hv2 own2 hown hcl
        go_wp2_with fail
        go_roundw
        case rel => exact ⟨k + 1, by omega, by omega, by go_num, by rw [HS.out, HM.out]; exact hO5.out, HW5.out, hch5.out⟩
        case measure => simp [intOf]; omega
      · obtain rfl : k = 40 := by omega
        have d2 : decide (((40 : Nat) : Int) < 40) = false := rfl
        have e0 : ((40 : Nat) : Int) = 40 := rfl
        have HR : Hid (NewZ w wr u3 (dayz L)) := Lib.hid ⟨by rw [← dayz_take40]; exact HO.out, HW.out, hch⟩
        clear hx
        go_wp2_with fail
        go_ret
        exact ⟨_, rfl, HR.out⟩
    · obtain rfl : k = n := by omega
      have HR : Hid (NewZ w wr u3 (dayz L)) := Lib.hid ⟨by have := HO.out; rwa [List.take_of_length_le (by rw [HL.out]; omega)] at this, HW.out, hch⟩
      clear hx
      go_wp2_with fail
      go_ret
      exact ⟨_, rfl, HR.out⟩

/-! ### awake -/
theorem ex1 : AddR [] 5 0 (two 7 0) := AddR.ok (v := some 7) (by simp) rfl (by omega) (by omega) ⟨by decide, by decide, by decide, by decide⟩
theorem ex2 : AddR [7] 5 0 (two 8 0) := AddR.ok (v := some 8) (by simp) rfl (by omega) (by omega) ⟨by decide, by decide, by decide, by decide⟩
theorem ex3 : AddR [] 3 2 (two 7 0) := AddR.ok (v := some 7) (by simp) rfl (by omega) (by omega) ⟨by decide, by decide, by decide, by decide⟩
theorem two_inj {a b c d : Int} (h : two a b = two c d) : a = c ∧ b = d := by
  unfold two at h; simpa using h
theorem next_is (zs : List Int) (d x y : Int) (l : Nat) (A : Option Addr) (cap : Nat) (w : World) (hd : I64 d) (hl : zs.length = l) (hl2 : l ≤ 9223372036854775807) (hz : ∀ x, x ∈ zs → I64 x) (hx : RdZ w A zs) (h : AddR zs d 0 (two x y)) :
    Calls Try.prog 18 #[.int .i64 d, .slice A l cap] w fun e w' => e = .returned (.tuple #[.int .i64 x, .int .i64 y]) ∧ Chg [] w w' :=
  (next_any zs d l A cap w hd hl hl2 hz hx).mono fun e w' ⟨a, c, he, hr, hc⟩ => by
    have := two_inj (hr.unique h)
    rw [this.1, this.2] at he
    exact ⟨he, hc⟩
theorem add_is (zs : List Int) (d n x y : Int) (l : Nat) (A : Option Addr) (cap : Nat) (w : World) (hd : I64 d) (hn : I64 n) (hl : zs.length = l) (hl2 : l ≤ 9223372036854775807) (hz : ∀ x, x ∈ zs → I64 x) (hx : RdZ w A zs) (h : AddR zs d n (two x y)) :
    Calls Try.prog 20 #[.int .i64 d, .int .i64 n, .slice A l cap] w fun e w' => e = .returned (.tuple #[.int .i64 x, .int .i64 y]) ∧ Chg [] w w' :=
  (add_any zs d n l A cap w hd hn hl hl2 hz hx).mono fun e w' ⟨o, he, hr, hc⟩ => by
    rw [hr.unique h] at he
    exact ⟨he, hc⟩
theorem RdZ.nil (w : World) (A : Option Addr) : RdZ w A [] := fun h => absurd h (by simp)
theorem RdZ.one (w : World) (x : Int) : RdZ (w.alloc (.cells #[.int .i64 x] 3)) (some ⟨w.heap.size, 0, none⟩) [x] :=
  fun _ => ⟨_, 0, rfl, by simp, fun j hj => by
    have : j = 0 := by simpa using hj
    subst this
    simp⟩

set_option maxRecDepth 20000 in
set_option maxHeartbeats 2000000 in
theorem awake_any (w : World) :
    Calls Try.prog 13 #[] w fun e w' => e = .returned (.bool true) ∧ Chg [] w w' := by
  have H5 : Hid (I64 5 ∧ I64 3 ∧ I64 2) := Lib.hid (by unfold I64; omega)
  have HN : Hid (∀ x, x ∈ ([] : List Int) → I64 x) := Lib.hid (fun x h => by cases h)
  have HO : Hid (∀ x, x ∈ ([7] : List Int) → I64 x) := Lib.hid (fun x h => by simp at h; subst h; unfold I64; omega)
  go_enter Try.func13, Try.ntmps13
  go_wp2_with (first
    | (go_at_call 18; (with_reducible refine (next_is [] 5 7 0 0 none 0 _ H5.out.1 rfl (by omega) HN.out (RdZ.nil _ _) ex1).mono ?_); rintro e w1 ⟨rfl, c1⟩)
    | (go_at_call 18; refine (next_is [7] 5 8 0 1 _ 1 _ H5.out.1 rfl (by omega) HO.out (RdZ.one w1 7) ex2).mono ?_; rintro e w2 ⟨rfl, c2⟩)
    | (go_at_call 20; refine (add_is [] 3 2 7 0 0 none 0 _ H5.out.2.1 H5.out.2.2 rfl (by omega) HN.out (RdZ.nil _ _) ex3).mono ?_; rintro e w3 ⟨rfl, c3⟩)
    | (go_at_call 12; refine (weekday_any 5 _ H5.out.1).mono ?_; rintro e w4 ⟨rfl, hw⟩; obtain rfl := hw.symm; clear hw))
  go_ret
  exact ⟨rfl, ((c1.alloc _).then c2).then c3⟩
end Go.Proofs.Ytfmbekdhkilflaa
