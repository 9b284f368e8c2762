/-
  Currency: Convert of the program and of the reference.
-/
import Derived.Test.YtkdcffcgedhllaaKX2
namespace Go.Proofs.Ytkdcffcgedhllaa
open Go.RowKit Nd

theorem Num_okQ {x : Q3} {c : Rat} {k : Nat} (h : Num x c k) (hk : okB x = true) : Val x c k := by
  obtain rfl := h.rat
  exact ⟨ok_enc hk, h.bd⟩
theorem sg_pos {q : Rat} (h : 0 < sg q) : 0 < q := by
  unfold sg at h
  by_cases h1 : q < 0
  · rw [if_pos h1] at h; exact absurd h (by decide)
  · rw [if_neg h1] at h
    by_cases h2 : q = 0
    · rw [if_pos h2] at h; exact absurd h (by decide)
    · grind
/-- A rate without an error is a valid positive number. -/
theorem rt_val {l : List Qt} {c : ByteArray} {d : Int} {k : Nat} (hf : FitQ l k) (h : rtE l c d = 0) : Val (rtV l c d) (ratOf (rtV l c d)) k ∧ 0 < ratOf (rtV l c d) := by
  have h0 : onE l d = 0 := by
    by_cases h0 : onE l d = 0
    · exact h0
    · rw [(rt_on h0).1] at h; exact absurd h h0
  have hE := (rt_off (c := c) h0).1
  rw [(rt_off (c := c) h0).2]
  rw [hE] at h
  by_cases he : c = eur
  · rw [(eur_ok (l := l) (d := d) he).2]
    have hv := Val_one
    rw [hv.num.rat]
    exact ⟨hv.mono hf.pos, by decide⟩
  · by_cases hk : kno l c l.length = false
    · rw [(find_unknown he hk).1] at h; exact absurd h (by decide)
    · by_cases hb : bst l c d l.length < 0
      · rw [(find_late he (by simpa using hk) hb).1] at h; exact absurd h (by decide)
      · rw [(find_hit he (by simpa using hk) hb).2]
        have hbl := bst_lo l c d l.length
        have hj : (bst l c d l.length).toNat < l.length := by omega
        have hg := (chk_good (on_chk0 h0) hj).2.2
        have hp := sg_pos hg
        refine ⟨Num_okQ (hf.num hj) ?_, hp⟩
        cases hok : okB (l.getD (bst l c d l.length).toNat qt0).rt with
        | true => rfl
        | false => rw [bad_rat hok] at hp; exact absurd hp (by decide)
/-- The error of Convert. -/
def cvE (l : List Qt) (f t : ByteArray) (d : Int) : Int := if rtE l f d = 0 then rtE l t d else rtE l f d
/-- Its amount. -/
def cvV (p : Rat) (l : List Qt) (f t : ByteArray) (d : Int) : Rat := if cvE l f t d = 0 then p * ratOf (rtV l f d) / ratOf (rtV l t d) else 0
theorem cv_from {p : Rat} {l : List Qt} {f t : ByteArray} {d : Int} (h : rtE l f d ≠ 0) : cvE l f t d = rtE l f d ∧ cvV p l f t d = 0 := by
  have e : cvE l f t d = rtE l f d := by unfold cvE; rw [if_neg h]
  exact ⟨e, by unfold cvV; rw [e, if_neg h]⟩
theorem cv_to {p : Rat} {l : List Qt} {f t : ByteArray} {d : Int} (h : rtE l f d = 0) (h2 : rtE l t d ≠ 0) : cvE l f t d = rtE l t d ∧ cvV p l f t d = 0 := by
  have e : cvE l f t d = rtE l t d := by unfold cvE; rw [if_pos h]
  exact ⟨e, by unfold cvV; rw [e, if_neg h2]⟩
theorem cv_ok {p : Rat} {l : List Qt} {f t : ByteArray} {d : Int} (h : rtE l f d = 0) (h2 : rtE l t d = 0) : cvE l f t d = 0 ∧ cvV p l f t d = p * ratOf (rtV l f d) / ratOf (rtV l t d) := by
  have e : cvE l f t d = 0 := by unfold cvE; rw [if_pos h]; exact h2
  exact ⟨e, by unfold cvV; rw [if_pos e]⟩
theorem box2x (w : World) (x : Q3) : Blk3 ((w.alloc (.cells #[.bool x.neg, .string x.num, .string x.den] 30)).alloc (.cells #[.bool false, .string ⟨#[]⟩, .string ⟨#[]⟩] 30)) w.heap.size (.bool x.neg) (.string x.num) (.string x.den) ∧ Blk3 ((w.alloc (.cells #[.bool x.neg, .string x.num, .string x.den] 30)).alloc (.cells #[.bool false, .string ⟨#[]⟩, .string ⟨#[]⟩] 30)) (w.heap.size + 1) (.bool false) (.string ⟨#[]⟩) (.string ⟨#[]⟩) ∧ Chg [] w ((w.alloc (.cells #[.bool x.neg, .string x.num, .string x.den] 30)).alloc (.cells #[.bool false, .string ⟨#[]⟩, .string ⟨#[]⟩] 30)) := by
  have b2 := Blk3.alloc (w.alloc (.cells #[.bool x.neg, .string x.num, .string x.den] 30)) (.bool false) (.string ⟨#[]⟩) (.string ⟨#[]⟩) 30
  rw [World.size_alloc] at b2
  exact ⟨(Blk3.alloc w (.bool x.neg) (.string x.num) (.string x.den) 30).keep ((Chg.refl [] _).alloc (.cells #[.bool false, .string ⟨#[]⟩, .string ⟨#[]⟩] 30)) (by simp), b2, ((Chg.refl _ _).alloc _).alloc _⟩

set_option maxRecDepth 20000 in
set_option maxHeartbeats 4000000 in
theorem qconvert_any (l : List Qt) (x : Q3) (p : Rat) (kp : Nat) (f t : ByteArray) (d : Int) (n k : Nat) (A : Option Addr) (cap : Nat) (w : World) (hn : l.length = n) (hm : n ≤ 1000000000) (hcp : n ≤ cap) (hcp2 : cap ≤ 9223372036854775807) (hf : FitQ l k) (hp : Num x p kp) (hkp : kp ≤ 1000000000) (hx : SQt w A l) :
    Calls Try.prog 18 #[.slice A n cap, .agg #[.bool x.neg, .string x.num, .string x.den], .string f, .string t, .int .i64 d] w fun e w' => ∃ z, e = .returned (.tuple #[.agg #[.bool z.neg, .string z.num, .string z.den], .int .i64 (cvE l f t d)]) ∧ Val z (cvV p l f t d) (kp + k + k) ∧ Chg [] w w' := by
  obtain ⟨b6, b10, hch⟩ := box2x w x
  replace hx := hx.keep0 hch
  have hk1000 := hf.le
  have HPOS := Lib.hid hf.pos
  have HCK := Lib.hid (fun w h => checkOn_any l d n k A cap w hn hm hcp hcp2 hf h)
  have HP := Lib.hid hp
  clear hp
  by_cases h0 : onE l d = 0
  · have HF1 := Lib.hid (fun w h => find_any l f d n A cap w hn hm (fun j hj => (chk_good (on_chk0 h0) hj).2.1) h)
    have HF2 := Lib.hid (fun w h => find_any l t d n A cap w hn hm (fun j hj => (chk_good (on_chk0 h0) hj).2.1) h)
    rw [← (rt_off (c := f) h0).1, ← (rt_off (c := f) h0).2] at HF1
    rw [← (rt_off (c := t) h0).1, ← (rt_off (c := t) h0).2] at HF2
    rw [h0] at HCK
    have HV1 := Lib.hid (rt_val (c := f) (d := d) hf)
    have HV2 := Lib.hid (rt_val (c := t) (d := d) hf)
    have HC1 := Lib.hid (cv_from (p := p) (l := l) (f := f) (t := t) (d := d))
    have HC2 := Lib.hid (cv_to (p := p) (l := l) (f := f) (t := t) (d := d))
    have HC3 := Lib.hid (cv_ok (p := p) (l := l) (f := f) (t := t) (d := d))
    obtain ⟨e1, HE1⟩ := name_it (rtE l f d)
    obtain ⟨v1, HVV1⟩ := name_it (rtV l f d)
    obtain ⟨e2, HE2⟩ := name_it (rtE l t d)
    obtain ⟨v2, HVV2⟩ := name_it (rtV l t d)
    obtain ⟨ce, HCE⟩ := name_it (cvE l f t d)
    obtain ⟨cv, HCV⟩ := name_it (cvV p l f t d)
    rw [HE1.out, HVV1.out] at HF1 HV1
    rw [HE2.out, HVV2.out] at HF2 HV2
    rw [HCE.out, HCV.out, HE1.out] at HC1
    rw [HCE.out, HCV.out, HE1.out, HE2.out] at HC2
    rw [HCE.out, HCV.out, HE1.out, HE2.out, HVV1.out, HVV2.out] at HC3
    rw [HCE.out, HCV.out]
    clear hn hf h0 HE1 HE2 HVV1 HVV2 HCE HCV
    go_enter Try.func18, Try.ntmps18
    go_wp2_with (go_at_call 30; (with_reducible refine (HCK.out _ hx).mono ?_); rintro e w1 ⟨rfl, c1⟩; replace b6 := b6.keep0 c1; replace b10 := b10.keep0 c1; have hx2 := hx.keep0 c1; replace hch := hch.then c1; clear c1)
    refine (HF1.out _ hx2).mono ?_
    rintro e w2 ⟨rfl, c1⟩
    replace b6 := b6.keep0 c1
    replace b10 := b10.keep0 c1
    replace hx2 := hx2.keep0 c1
    replace hch := hch.then c1
    have b13 := Blk3.alloc w2 (.bool v1.neg) (.string v1.num) (.string v1.den) 30
    have c2 : Chg [] w2 (w2.alloc (.cells #[.bool v1.neg, .string v1.num, .string v1.den] 30)) := (Chg.refl _ _).alloc _
    replace b6 := b6.keep0 c2
    replace b10 := b10.keep0 c2
    replace hx2 := hx2.keep0 c2
    replace hch := hch.then c2
    clear c1 c2
    by_cases h1 : e1 = 0
    · subst h1
      go_wp2_with fail
      refine (HF2.out _ hx2).mono ?_
      rintro e w3 ⟨rfl, c1⟩
      replace b6 := b6.keep0 c1
      replace b10 := b10.keep0 c1
      replace b13 := b13.keep0 c1
      replace hch := hch.then c1
      have b15 := Blk3.alloc w3 (.bool v2.neg) (.string v2.num) (.string v2.den) 30
      have c2 : Chg [] w3 (w3.alloc (.cells #[.bool v2.neg, .string v2.num, .string v2.den] 30)) := (Chg.refl _ _).alloc _
      replace b6 := b6.keep0 c2
      replace b10 := b10.keep0 c2
      replace b13 := b13.keep0 c2
      replace hch := hch.then c2
      clear c1 c2 hx2
      by_cases h2 : e2 = 0
      · subst h2
        obtain ⟨r1, r2⟩ := HC3.out (by first | rfl | trivial) (by first | rfl | trivial)
        subst r1
        obtain ⟨hv1, hp1⟩ := HV1.out (by first | rfl | trivial)
        obtain ⟨hv2, hp2⟩ := HV2.out (by first | rfl | trivial)
        obtain ⟨q1', HQ1⟩ := name_it (ratOf v1)
        obtain ⟨q2', HQ2⟩ := name_it (ratOf v2)
        rw [HQ1.out] at hv1 r2
        rw [HQ2.out] at hv2 hp2 r2
        have HVL1 := Lib.hid hv1
        have HVL2 := Lib.hid hv2
        have HNZ : Hid (q2' ≠ 0) := Lib.hid (by grind)
        have HR2 := Lib.hid r2
        clear hv1 hv2 hp1 hp2 r2 HC1 HC2 HC3 HV1 HV2 HF1 HF2 HCK
        go_wp2_with fail
        obtain ⟨w5, HW5⟩ := name_it (w3.alloc (.cells #[.bool v2.neg, .string v2.num, .string v2.den] 30))
        obtain ⟨g15, G15⟩ := name_it w3.heap.size
        obtain ⟨g13, G13⟩ := name_it w2.heap.size
        obtain ⟨g6, G6⟩ := name_it w.heap.size
        rw [HW5.out] at b6 b10 b13 b15 hch ⊢
        rw [G15.out] at b15 ⊢
        rw [G13.out] at b13 ⊢
        rw [G6.out] at b6 b10 ⊢
        clear HW5 G15 G13
        go_cut [16] (fun pv wx => ∃ (g16 : Nat) (z : Q3), pv = .pointer (some ⟨g16, 0, none⟩) ∧ Val z cv (kp + k + k) ∧ Blk3 wx g16 (.bool z.neg) (.string z.num) (.string z.den) ∧ Blk3 wx (g6 + 1) (.bool false) (.string ⟨#[]⟩) (.string ⟨#[]⟩) ∧ g6 + 1 ≠ g16 ∧ Chg [] w wx)
        case first =>
          have c8 : Chg [] w5 w5.drew := (Chg.refl _ _).drew
          replace b6 := b6.keep c8 (by simp)
          replace b10 := b10.keep c8 (by simp)
          replace b13 := b13.keep c8 (by simp)
          replace b15 := b15.keep c8 (by simp)
          replace hch := hch.then c8
          clear c8
          have hl10 : g6 + 1 < w5.heap.size := b10.lt
          have hwg : w.heap.size ≤ w5.heap.size := by rw [G6.out]; omega
          have hl13 : g13 < w5.heap.size := b13.lt
          have hl15 : g15 < w5.heap.size := b15.lt
          go_region_held3 (fun w' => w'.cell? ⟨g6, 0, none⟩ = some (.bool x.neg) ∧ w'.cell? ⟨g6, 1, none⟩ = some (.string x.num) ∧ w'.cell? ⟨g6, 2, none⟩ = some (.string x.den) ∧ w'.cell? ⟨g13, 0, none⟩ = some (.bool v1.neg) ∧ w'.cell? ⟨g13, 1, none⟩ = some (.string v1.num) ∧ w'.cell? ⟨g13, 2, none⟩ = some (.string v1.den) ∧ w'.cell? ⟨g15, 0, none⟩ = some (.bool v2.neg) ∧ w'.cell? ⟨g15, 1, none⟩ = some (.string v2.num) ∧ w'.cell? ⟨g15, 2, none⟩ = some (.string v2.den)) (first
              | exact ⟨b6.c0, b6.c1, b6.c2, b13.c0, b13.c1, b13.c2, b15.c0, b15.c1, b15.c2⟩
              | exact ⟨(b6.keep0 ((Chg.refl [] _).alloc _)).c0, (b6.keep0 ((Chg.refl [] _).alloc _)).c1, (b6.keep0 ((Chg.refl [] _).alloc _)).c2, (b13.keep0 ((Chg.refl [] _).alloc _)).c0, (b13.keep0 ((Chg.refl [] _).alloc _)).c1, (b13.keep0 ((Chg.refl [] _).alloc _)).c2, (b15.keep0 ((Chg.refl [] _).alloc _)).c0, (b15.keep0 ((Chg.refl [] _).alloc _)).c1, (b15.keep0 ((Chg.refl [] _).alloc _)).c2⟩
              | exact ⟨(b6.st2 (by omega) _ _ _).c0, (b6.st2 (by omega) _ _ _).c1, (b6.st2 (by omega) _ _ _).c2, (b13.st2 (by omega) _ _ _).c0, (b13.st2 (by omega) _ _ _).c1, (b13.st2 (by omega) _ _ _).c2, (b15.st2 (by omega) _ _ _).c0, (b15.st2 (by omega) _ _ _).c1, (b15.st2 (by omega) _ _ _).c2⟩) (first
              | (go_at_call 34
                 (with_reducible refine (MultiplyN x v1 p q1' kp k _ HP.out HVL1.out.num (by omega)).mono ?_)
                 rintro e w6 ⟨y6, rfl, hy6, c6⟩
                 have HY6 := Lib.hid hy6
                 have c6d : Chg [] w5.drew w6 := by first | exact c6 | exact ((Chg.refl [] _).alloc _).then c6
                 try (have b16 : Blk3 w6 w5.heap.size (.bool false) (.string ⟨#[]⟩) (.string ⟨#[]⟩) := (Blk3.alloc w5.drew (.bool false) (.string ⟨#[]⟩) (.string ⟨#[]⟩) 30).keep c6 (by simp))
                 replace b6 := b6.keep c6d (by simp)
                 replace b10 := b10.keep c6d (by simp)
                 replace b13 := b13.keep c6d (by simp)
                 replace b15 := b15.keep c6d (by simp)
                 replace hch := hch.then c6d
                 clear c6d
                 have hsz6 : w5.heap.size ≤ w6.heap.size := by have := c6.size; first | exact this | (simp at this; omega)
                 clear hy6 c6)
              | (go_at_call 33
                 (with_reducible refine (DivideN y6 v2 (p * q1') q2' (kp + k) k _ HY6.out.num HVL2.out.num HNZ.out (by omega)).mono ?_)
                 rintro e w7 ⟨z7, rfl, hz7, c7⟩
                 have HZ7 := Lib.hid hz7
                 rw [← HR2.out] at HZ7
                 have c7d : Chg [] w6 w7 := by first | exact c7 | exact ((Chg.refl [] _).alloc _).then c7
                 first | (replace b16 := b16.keep c7 (by simp)) | (have b16 := (Blk3.alloc w6 (.bool false) (.string ⟨#[]⟩) (.string ⟨#[]⟩) 30).keep c7 (by simp)) | skip
                 replace b6 := b6.keep c7d (by simp)
                 replace b10 := b10.keep c7d (by simp)
                 replace b13 := b13.keep c7d (by simp)
                 replace b15 := b15.keep c7d (by simp)
                 replace hch := hch.then c7d
                 clear c7d
                 have hsz7 : w6.heap.size ≤ w7.heap.size := by have := c7.size; first | exact this | (simp at this; omega)
                 clear hz7 c7
                 try (have b16c0 := b16.c0; have b16c1 := b16.c1; have b16c2 := b16.c2; have b16f0 := b16.f0; have b16f1 := b16.f1; have b16f2 := b16.f2; have b16l := b16.lt))
              | fail)
          all_goals
            go_wp2_with fail
            go_meet
            first
              | exact ⟨_, z7, rfl, HZ7.out, Blk3.alloc w7 _ _ _ _, b10.keep0 ((Chg.refl [] w7).alloc _), by omega, hch.alloc _⟩
              | exact ⟨_, z7, rfl, HZ7.out, b16.store _ _ _, b10.st2 (by omega) _ _ _, by omega, hch.store3 (g := w5.heap.size) (.inr (by omega)) _ _ _⟩
              | exact ⟨_, z7, rfl, HZ7.out, b16.store _ _ _, b10.st2 (by omega) _ _ _, by omega, hch.store3 (g := w6.heap.size) (.inr (by omega)) _ _ _⟩
        case rest =>
          clear b6 b10 b13 b15 hch
          obtain ⟨g16, z, rfl, hz, b16, b10, hne, hch⟩ := hcut
          have HZ := Lib.hid hz
          have S := b10.store (.bool z.neg) (.string z.num) (.string z.den)
          have hchS := hch.store3 (g := g6 + 1) (.inr (by rw [G6.out]; omega)) (.bool z.neg) (.string z.num) (.string z.den)
          clear hz
          have b16c0 := b16.c0
          have b16c1 := b16.c1
          have b16c2 := b16.c2
          have b16f0 := b16.f0
          have b16f1 := b16.f1
          have b16f2 := b16.f2
          have b16l := b16.lt
          have b10c0 := b10.c0
          have b10c1 := b10.c1
          have b10c2 := b10.c2
          have b10f0 := b10.f0
          have b10f1 := b10.f1
          have b10f2 := b10.f2
          have b10l := b10.lt
          go_wp2_with fail
          exact bodyPost_ret (v := .tuple #[.agg #[.bool z.neg, .string z.num, .string z.den], .int .i64 0]) (by simp [results, Try.results18, go_sem, S.c0, S.c1, S.c2]) rfl ⟨z, rfl, HZ.out, hchS⟩
      · obtain ⟨r1, r2⟩ := HC2.out (by first | rfl | trivial) h2
        have S := b10.store (.bool false) (.string ⟨#[]⟩) (.string ⟨#[]⟩)
        have hchS := hch.store3 (.inr (show w.heap.size ≤ w.heap.size + 1 by omega)) (.bool false) (.string ⟨#[]⟩) (.string ⟨#[]⟩)
        have d1 : (e2 == 0) = false := by simp; exact h2
        subst r1 r2
        clear h2 HC1 HC2 HC3 HV1 HV2 HF1 HF2 HCK
        have b10c0 := b10.c0
        have b10c1 := b10.c1
        have b10c2 := b10.c2
        have b10f0 := b10.f0
        have b10f1 := b10.f1
        have b10f2 := b10.f2
        have b10l := b10.lt
        go_wp2_with fail
        exact bodyPost_ret (v := .tuple #[.agg #[.bool false, .string ⟨#[]⟩, .string ⟨#[]⟩], .int .i64 ce]) (by simp [results, Try.results18, go_sem, S.c0, S.c1, S.c2]) rfl ⟨q0, rfl, Val_zero.mono (by have := HPOS.out; omega), hchS⟩
    · obtain ⟨r1, r2⟩ := HC1.out h1
      have S := b10.store (.bool false) (.string ⟨#[]⟩) (.string ⟨#[]⟩)
      have hchS := hch.store3 (.inr (show w.heap.size ≤ w.heap.size + 1 by omega)) (.bool false) (.string ⟨#[]⟩) (.string ⟨#[]⟩)
      have d1 : (e1 == 0) = false := by simp; exact h1
      subst r1 r2
      clear h1 HC1 HC2 HC3 HV1 HV2 HF1 HF2 HCK
      have b10c0 := b10.c0
      have b10c1 := b10.c1
      have b10c2 := b10.c2
      have b10f0 := b10.f0
      have b10f1 := b10.f1
      have b10f2 := b10.f2
      have b10l := b10.lt
      go_wp2_with fail
      exact bodyPost_ret (v := .tuple #[.agg #[.bool false, .string ⟨#[]⟩, .string ⟨#[]⟩], .int .i64 ce]) (by simp [results, Try.results18, go_sem, S.c0, S.c1, S.c2]) rfl ⟨q0, rfl, Val_zero.mono (by have := HPOS.out; omega), hchS⟩
  · obtain ⟨r1, r2⟩ := cv_from (p := p) (l := l) (f := f) (t := t) (d := d) (by rw [(rt_on h0).1]; exact h0)
    rw [(rt_on h0).1] at r1
    obtain ⟨ce, HCE⟩ := name_it (cvE l f t d)
    obtain ⟨cv, HCV⟩ := name_it (cvV p l f t d)
    rw [HCE.out] at r1
    rw [HCV.out] at r2
    rw [HCE.out, HCV.out]
    rw [← r1] at HCK h0
    subst r2
    have d1 : (ce == 0) = false := by simp; exact h0
    clear hn hf h0 HCE HCV r1
    go_enter Try.func18, Try.ntmps18
    go_wp2_with (go_at_call 30; (with_reducible refine (HCK.out _ hx).mono ?_); rintro e w1 ⟨rfl, c1⟩; replace b10 := b10.keep0 c1; replace hch := hch.then c1; clear c1; have b10c0 := b10.c0; have b10c1 := b10.c1; have b10c2 := b10.c2; have b10f0 := b10.f0; have b10f1 := b10.f1; have b10f2 := b10.f2; have b10l := b10.lt)
    have S := b10.store (.bool false) (.string ⟨#[]⟩) (.string ⟨#[]⟩)
    have hchS := hch.store3 (.inr (show w.heap.size ≤ w.heap.size + 1 by omega)) (.bool false) (.string ⟨#[]⟩) (.string ⟨#[]⟩)
    exact bodyPost_ret (v := .tuple #[.agg #[.bool false, .string ⟨#[]⟩, .string ⟨#[]⟩], .int .i64 ce]) (by simp [results, Try.results18, go_sem, S.c0, S.c1, S.c2]) rfl ⟨q0, rfl, Val_zero.mono (by have := HPOS.out; omega), hchS⟩
end Go.Proofs.Ytkdcffcgedhllaa
