/-
  Several parts put together: Enc, Q1, Q2, Q3.
-/
import Derived.Test.YtogciehmdlfkfaaGreatDoorGC
import Derived.Test.YtogciehmdlfkfaaGreatDoorGA
import Derived.Test.YtogciehmdlfkfaaGreatDoorGE
import Derived.Laws.StructEq
import Derived.Deep.RegionHeld3
/- Part Enc. -/

namespace Go.Proofs.YtogciehmdlfkfaaGreatDoor
open Go.RowKit Nd
theorem Is_def {s : ByteArray} {n : Nat} : Is s n ↔ val s = n ∧ nolead s.data.toList := Iff.rfl
theorem Is_zero {s : ByteArray} : Is s 0 ↔ s = ⟨#[]⟩ := by
  constructor
  · intro h; exact Is_unique h ⟨rfl, nolead_nil⟩
  · rintro rfl; exact ⟨rfl, nolead_nil⟩
theorem Is_one {s : ByteArray} : Is s 1 ↔ s = ⟨#[1]⟩ := by
  have h1 : Is ⟨#[1]⟩ 1 := ⟨rfl, by simp [nolead]⟩
  constructor
  · intro h; exact Is_unique h h1
  · rintro rfl; exact h1

/-! ### the bytes of a number -/
def nbAux : Nat → Nat → List UInt8
  | 0, _ => []
  | f + 1, n => if n = 0 then [] else nbAux f (n / 256) ++ [UInt8.ofNat (n % 256)]
theorem nbAux_is : ∀ (f n : Nat), n ≤ f → isN (nbAux f n) n
  | 0, n, h => by
    have : n = 0 := by omega
    subst this; exact ⟨rfl, nolead_nil⟩
  | f + 1, n, h => by
    unfold nbAux
    split
    · rename_i h0; rw [h0]; exact ⟨rfl, nolead_nil⟩
    · rename_i h0
      obtain ⟨h1, h2⟩ := nbAux_is f (n / 256) (by omega)
      have e : (UInt8.ofNat (n % 256)).toNat = n % 256 := UInt8.toNat_ofNat_of_lt' (by have := Nat.mod_lt n (show 0 < 256 by omega); simpa [UInt8.size] using this)
      refine ⟨?_, ?_⟩
      · rw [bv_snoc, h1, e]; omega
      · cases hL : nbAux f (n / 256) with
        | nil =>
          rw [hL] at h1
          simp at h1
          simp only [nolead, List.nil_append, List.head?_cons]
          intro hc
          have := congrArg (fun o => (o.getD 0).toNat) hc
          simp only [Option.getD_some, e] at this
          simp at this
          omega
        | cons x l => rw [hL] at h2; simpa [nolead] using h2
/-- The bytes of n, without leading zeros. -/
def nb (n : Nat) : ByteArray := ⟨(nbAux n n).toArray⟩
theorem Is_nb (n : Nat) : Is (nb n) n := by unfold Is nb; simpa using nbAux_is n n (Nat.le_refl n)
theorem nb_of {s : ByteArray} {n : Nat} (h : Is s n) : s = nb n := Is_unique h (Is_nb n)
theorem val_nb (n : Nat) : val (nb n) = n := (Is_nb n).1

/-! ### api.Rat as data -/
structure Q3 where
  neg : Bool
  num : ByteArray
  den : ByteArray
/-- x is the only valid form of q. -/
structure Enc (x : Q3) (q : Rat) : Prop where
  neg : x.neg = decide (q.num < 0)
  num : Is x.num q.num.natAbs
  den : Is x.den (if q.den = 1 then 0 else q.den)
theorem Enc.unique {x y : Q3} {q : Rat} (h : Enc x q) (k : Enc y q) : x = y := by
  obtain ⟨a, b, c⟩ := x
  obtain ⟨a', b', c'⟩ := y
  have h1 := h.neg.trans k.neg.symm
  have h2 := Is_unique h.num k.num
  have h3 := Is_unique h.den k.den
  simp only at h1 h2 h3
  rw [h1, h2, h3]
def nolB (s : ByteArray) : Bool := decide (s.data.toList.head? ≠ some 0)
theorem nolB_iff {s : ByteArray} : nolB s = true ↔ nolead s.data.toList := by unfold nolB nolead; simp
/-- Whether x is valid. -/
def okB (x : Q3) : Bool := nolB x.num && nolB x.den && decide (val x.den ≠ 1) && (if val x.num = 0 then decide (val x.den = 0) && !x.neg else decide (val x.den = 0) || decide (Nat.gcd (val x.num) (val x.den) = 1))
def dn (x : Q3) : Nat := if val x.den = 0 then 1 else val x.den
theorem dn_pos (x : Q3) : dn x ≠ 0 := by unfold dn; split <;> omega
/-- The number that x counts as. -/
def ratOf (x : Q3) : Rat := if okB x then sq x.neg (val x.num) (dn x) else 0
theorem ok_enc {x : Q3} (h : okB x = true) : Enc x (ratOf x) := by
  unfold ratOf
  rw [if_pos h]
  unfold okB at h
  simp only [Bool.and_eq_true] at h
  obtain ⟨⟨⟨h1, h2⟩, h3⟩, h4⟩ := h
  have n1 := nolB_iff.1 h1
  have n2 := nolB_iff.1 h2
  simp only [decide_eq_true_eq] at h3
  by_cases h0 : val x.num = 0
  · rw [if_pos h0] at h4
    simp at h4
    rw [h0, sq_zero]
    exact ⟨by rw [h4.2]; rfl, ⟨h0, n1⟩, ⟨h4.1, n2⟩⟩
  · rw [if_neg h0] at h4
    have hg : Nat.gcd (val x.num) (dn x) = 1 := by
      unfold dn
      split
      · simp
      · rename_i hd
        simpa [hd] using h4
    obtain ⟨e1, e2⟩ := sq_num_den (neg := x.neg) (dn_pos x) hg
    refine ⟨?_, ?_, ?_⟩
    · rw [e1]; cases x.neg <;> simp <;> omega
    · rw [e1]
      have e : (if x.neg = true then -(val x.num : Int) else (val x.num : Int)).natAbs = val x.num := by cases x.neg <;> simp
      rw [e]; exact ⟨rfl, n1⟩
    · rw [e2]
      refine ⟨?_, n2⟩
      show val x.den = _
      unfold dn
      by_cases hd : val x.den = 0
      · simp [hd]
      · simp [hd, h3]
theorem Enc.dn {x : Q3} {q : Rat} (h : Enc x q) : dn x = q.den := by
  unfold Go.Proofs.YtogciehmdlfkfaaGreatDoor.dn
  rw [Is_val h.den]
  have := q.den_nz
  by_cases h1 : q.den = 1 <;> simp [h1, this]
theorem Enc.ok {x : Q3} {q : Rat} (h : Enc x q) : okB x = true := by
  unfold okB
  rw [nolB_iff.2 h.num.2, nolB_iff.2 h.den.2, Is_val h.num, Is_val h.den]
  have hr := q.reduced
  have hz := q.den_nz
  by_cases h1 : q.den = 1
  · simp only [h1]
    by_cases h0 : q.num = 0
    · simp [h0, h.neg]
    · simp [h0]
  · simp only [h1, if_false]
    by_cases h0 : q.num = 0
    · rw [h0] at hr
      simp at hr
      exact absurd hr h1
    · simp [h0, h1]
      exact .inr hr
theorem Enc.rat {x : Q3} {q : Rat} (h : Enc x q) : ratOf x = q := by
  unfold ratOf
  rw [if_pos h.ok, h.dn, Is_val h.num, h.neg, sq_self]
theorem Enc_iff {x : Q3} {q : Rat} : Enc x q ↔ okB x = true ∧ ratOf x = q := by
  constructor
  · intro h; exact ⟨h.ok, h.rat⟩
  · rintro ⟨h, rfl⟩; exact ok_enc h
theorem Enc.sq {x : Q3} {q : Rat} (h : Enc x q) : q = sq x.neg (val x.num) (Go.Proofs.YtogciehmdlfkfaaGreatDoor.dn x) := by rw [h.dn, Is_val h.num, h.neg, sq_self]
theorem bad_rat {x : Q3} (h : okB x = false) : ratOf x = 0 := by unfold ratOf; rw [h]; rfl
theorem Enc_zero : Enc ⟨false, ⟨#[]⟩, ⟨#[]⟩⟩ 0 := ⟨rfl, Is_zero.2 rfl, Is_zero.2 rfl⟩
theorem Enc.zero_iff {x : Q3} {q : Rat} (h : Enc x q) : x.num = ⟨#[]⟩ ↔ q = 0 := by
  rw [← Is_zero]
  have h1 := h.num
  constructor
  · intro h2
    have : q.num.natAbs = 0 := (Is_val h1).symm.trans (Is_val h2)
    have h3 : q.num = 0 := by omega
    exact Rat.num_eq_zero.1 h3
  · rintro rfl; exact h1
/-- What 'signed' makes of coprime numbers. -/
theorem Enc_make {neg : Bool} {n d : Nat} {N D : ByteArray} (hd : d ≠ 0) (hg : Nat.gcd n d = 1) (hN : Is N n) (hD : Is D (if d = 1 then 0 else d)) : Enc ⟨neg && decide (n ≠ 0), N, D⟩ (sq neg n d) := by
  obtain ⟨e1, e2⟩ := sq_num_den (neg := neg) hd hg
  refine ⟨?_, ?_, by rw [e2]; exact hD⟩
  · rw [e1]
    show (neg && decide (n ≠ 0)) = _
    cases neg
    · simp
    · by_cases h : n = 0
      · simp [h]
      · simp [h]; omega
  · rw [e1]
    have e : (if neg = true then -(n : Int) else (n : Int)).natAbs = n := by cases neg <;> simp
    rw [e]; exact hN
/-- The lengths are at most k. -/
def fits (x : Q3) (k : Nat) : Prop := x.num.size ≤ k ∧ x.den.size ≤ k
theorem Enc.fits {x : Q3} {q : Rat} {k : Nat} (h : Enc x q) (b : Bd k q) : fits x k :=
  ⟨Is_size h.num k b.1, Is_size h.den k (by split; exact Nat.pow_pos (by omega); exact b.2)⟩
theorem fits.bd {x : Q3} {k : Nat} (h : fits x k) (hk : 1 ≤ k) : Bd k (ratOf x) := by
  unfold ratOf
  split
  · refine Bd_sq (dn_pos x) (Nat.lt_of_lt_of_le (val_lt _) (Nat.pow_le_pow_right (by omega) h.1)) ?_
    unfold dn
    split
    · exact Nat.one_lt_pow (by omega) (by omega)
    · exact Nat.lt_of_lt_of_le (val_lt _) (Nat.pow_le_pow_right (by omega) h.2)
  · exact Bd_zero.mono hk
end Go.Proofs.YtogciehmdlfkfaaGreatDoor

/- Part Q1. -/

namespace Go.Proofs.YtogciehmdlfkfaaGreatDoor
open Go.RowKit Nd

theorem empty_iff (s : ByteArray) : s.toList.isEmpty = true ↔ s = ⟨#[]⟩ := by
  rw [toList_data]
  constructor
  · intro h
    apply ByteArray.ext
    apply Array.toList_inj.1
    simpa using h
  · rintro rfl; rfl
theorem one_iff (s : ByteArray) : (s.toList == [1]) = true ↔ s = ⟨#[1]⟩ := by
  rw [toList_data, beq_iff_eq]
  constructor
  · intro h
    apply ByteArray.ext
    apply Array.toList_inj.1
    simpa using h
  · rintro rfl; rfl
theorem Is_empty {s : ByteArray} {n : Nat} (h : Is s n) : s.toList.isEmpty = decide (n = 0) := by
  by_cases hn : n = 0
  · subst hn; rw [(empty_iff s).2 (Is_zero.1 h)]; rfl
  · have : ¬ s.toList.isEmpty = true := fun hc => hn (by have := (empty_iff s).1 hc; subst this; exact (Is_val h).symm)
    simp [hn] at this ⊢; simpa using this
theorem Is_isone {s : ByteArray} {n : Nat} (h : Is s n) : (s.toList == [1]) = decide (n = 1) := by
  by_cases hn : n = 1
  · subst hn; rw [(one_iff s).2 (Is_one.1 h)]; rfl
  · have : ¬ (s.toList == [1]) = true := fun hc => hn (by have := (one_iff s).1 hc; subst this; exact (Is_val h).symm)
    rw [Bool.not_eq_true] at this
    rw [this]; simp [hn]
theorem nolB_empty {s : ByteArray} (h : s.toList.isEmpty = true) : nolB s = true := by
  rw [(empty_iff s).1 h]; rfl
theorem nolB_first {s : ByteArray} (h : 0 < s.size) : nolB s = ((s[0].toNat : Int) != 0) := by
  unfold nolB
  have h1 := byte_get s 0 h
  rw [← List.head?_eq_getElem?] at h1
  rw [h1]
  by_cases h0 : s[0] = 0
  · simp [h0]
  · have : ¬ s[0].toNat = 0 := fun hc => h0 (UInt8.toNat_inj.1 (by simpa using hc))
    have h2 : ((s[0].toNat : Int) != 0) = true := by rw [bne_iff_ne]; omega
    rw [h2]; simp [h0]

set_option maxRecDepth 20000 in
theorem normal_any (s : ByteArray) (w : World) (hs : s.size ≤ 1099511627776) :
    Calls Tryz.prog 108 #[.string s] w fun e w' => e = .returned (.bool (nolB s)) ∧ w = w' := by
  obtain ⟨r, HR⟩ := name_it (nolB s)
  by_cases he : s.toList.isEmpty = true
  · have h1 : Hid (r = true) := by show _ = _; rw [← HR.out]; exact nolB_empty he
    go_enter Tryz.func108, Tryz.ntmps108
    go_wp2_with fail
    go_ret
    exact ⟨ret_eq (by rw [HR.out, h1.out]; rfl), rfl⟩
  · have he' : s.toList.isEmpty = false := by simpa using he
    have hlen : 0 < s.size := by
      apply Classical.byContradiction
      intro hc
      apply he
      rw [toList_data, List.isEmpty_iff_length_eq_zero]
      have : s.data.toList.length = s.size := by simp only [ByteArray.size, Array.length_toList]
      omega
    have h1 := nolB_first hlen
    rw [HR.out] at h1
    have H1 := Lib.hid h1
    clear he h1
    by_cases hb : ((s[0].toNat : Int) != 0) = true
    · have h2 : Hid (r = true) := H1.out.trans hb
      go_enter Tryz.func108, Tryz.ntmps108
      go_wp2_with fail
      go_ret
      exact ⟨ret_eq (by rw [HR.out, h2.out]; rfl), rfl⟩
    · have hb' : ((s[0].toNat : Int) != 0) = false := by simpa using hb
      have h2 : Hid (r = false) := H1.out.trans hb'
      clear hb
      go_enter Tryz.func108, Tryz.ntmps108
      go_wp2_with fail
      go_ret
      exact ⟨ret_eq (by rw [HR.out, h2.out]; rfl), rfl⟩

/-- The denominator, also if it is 1. -/
def dnS (x : Q3) : ByteArray := if x.den.toList.isEmpty then ⟨#[1]⟩ else x.den
theorem Enc.dnS {x : Q3} {q : Rat} (h : Enc x q) : Is (dnS x) q.den := by
  unfold Go.Proofs.YtogciehmdlfkfaaGreatDoor.dnS
  rw [Is_empty h.den]
  have hz := q.den_nz
  have hd := h.den
  by_cases h1 : q.den = 1
  · simp [h1]; exact Is_one.2 rfl
  · rw [if_neg h1] at hd
    simp [h1, hz]; exact hd

set_option maxRecDepth 20000 in
/-- What signed makes of coprime numbers. -/
theorem signed_any (neg : Bool) (N D : ByteArray) (n d : Nat) (w : World) (hN : Is N n) (hD : Is D d) (hd : d ≠ 0) (hg : Nat.gcd n d = 1) :
    Calls Tryz.prog 200 #[.bool neg, .string N, .string D] w fun e w' => ∃ x, e = .returned (.agg #[.bool x.neg, .string x.num, .string x.den]) ∧ Enc x (sq neg n d) ∧ Chg [] w w' := by
  have hn1 := Is_empty hN
  have hd1 := Is_isone hD
  have HE : Hid (Enc ⟨neg && decide (n ≠ 0), N, if d = 1 then ⟨#[]⟩ else D⟩ (sq neg n d)) := by
    refine Enc_make hd hg hN ?_
    by_cases h1 : d = 1
    · simp [h1]; exact Is_zero.2 rfl
    · simp [h1]; exact hD
  obtain ⟨z, HZ⟩ := name_it (decide (n = 0))
  rw [HZ.out] at hn1
  have HZ2 : Hid (decide (n ≠ 0) = !z) := by show _ = _; rw [← HZ.out]; simp
  rw [HZ2.out] at HE
  clear hg hN
  by_cases h1 : d = 1
  · have ht : (D.toList == [1]) = true := by rw [hd1]; simp [h1]
    rw [if_pos h1] at HE
    clear hd1 h1 hD hd
    cases neg <;> cases z
    all_goals
      go_enter Tryz.func200, Tryz.ntmps200
      go_wp2_with fail
      exact bodyPost_ret (v := .agg #[.bool _, .string N, .string ⟨#[]⟩]) (by simp [results, Tryz.results200, go_sem]) rfl ⟨_, rfl, HE.out, (Chg.refl _ _).alloc _⟩
  · have ht : (D.toList == [1]) = false := by rw [hd1]; simp [h1]
    rw [if_neg h1] at HE
    clear hd1 h1 hD hd
    cases neg <;> cases z
    all_goals
      go_enter Tryz.func200, Tryz.ntmps200
      go_wp2_with fail
      exact bodyPost_ret (v := .agg #[.bool _, .string N, .string D]) (by simp [results, Tryz.results200, go_sem]) rfl ⟨_, rfl, HE.out, (Chg.refl _ _).alloc _⟩

set_option maxRecDepth 20000 in
theorem lowest_any (N D : ByteArray) (n d k : Nat) (w : World) (hN : Is N n) (hD : Is D d) (hd : d ≠ 0) (hk : k ≤ 1099511627776) (sN : N.size ≤ k) (sD : D.size ≤ k) :
    Calls Tryz.prog 199 #[.string N, .string D] w fun e w' => ∃ X Y, e = .returned (.tuple #[.string X, .string Y]) ∧ Is X (n / Nat.gcd n d) ∧ Is Y (d / Nat.gcd n d) ∧ Chg [] w w' := by
  have hd1 := Is_isone hD
  by_cases h1 : d = 1
  · have ht : (D.toList == [1]) = true := by rw [hd1]; simp [h1]
    have HN : Hid (Is N (n / Nat.gcd n d)) := Lib.hid (by rw [h1]; simpa using hN)
    have HD : Hid (Is D (d / Nat.gcd n d)) := Lib.hid (by rw [h1] at hD ⊢; simpa using hD)
    clear hd1 h1 hD hN hd
    go_enter Tryz.func199, Tryz.ntmps199
    go_wp2_with fail
    go_ret2
    exact ⟨_, _, rfl, HN.out, HD.out, Chg.refl _ _⟩
  · have ht : (D.toList == [1]) = false := by rw [hd1]; simp [h1]
    have HN := Lib.hid hN
    have HD := Lib.hid hD
    have HZ := Lib.hid hd
    clear hd1 h1 hD hN hd
    go_enter Tryz.func199, Tryz.ntmps199
    go_wp2_with fail
    refine (GCD_any N D _ (by omega) (by omega)).mono ?_
    rintro e w1 ⟨g, rfl, hg, c1⟩
    rw [Is_val HN.out, Is_val HD.out] at hg
    have hg1 := Is_isone hg
    have sg : g.size ≤ 1099511627776 := Nat.le_trans (Is_size hg D.size (Nat.lt_of_le_of_lt (Nat.le_of_dvd (Nat.pos_of_ne_zero HZ.out) (Nat.gcd_dvd_right n d)) (by rw [← Is_val HD.out]; exact val_lt D))) (by omega)
    have HG := Lib.hid hg
    by_cases h2 : Nat.gcd n d = 1
    · have ht2 : (g.toList == [1]) = true := by rw [hg1]; simp [h2]
      have H2 := Lib.hid h2
      clear hg1 hg h2
      go_wp2_with fail
      go_ret2
      exact ⟨_, _, rfl, by rw [H2.out, Nat.div_one]; exact HN.out, by rw [H2.out, Nat.div_one]; exact HD.out, c1⟩
    · have ht2 : (g.toList == [1]) = false := by rw [hg1]; simp [h2]
      have hne : Hid (val g ≠ 0) := by show _ ≠ _; rw [Is_val HG.out]; exact Nat.gcd_ne_zero_right HZ.out
      clear hg1 hg h2
      go_wp2_with fail
      refine (Divide_any N g _ (by omega) sg hne.out).mono ?_
      rintro e w2 ⟨q1, r1, rfl, hq1, _, c2⟩
      have c12 := c1.then c2
      have HQ1 := Lib.hid hq1
      clear c1 c2 hq1
      go_wp2_with fail
      refine (Divide_any D g _ (by omega) sg hne.out).mono ?_
      rintro e w3 ⟨q2, r2, rfl, hq2, _, c3⟩
      have HQ2 := Lib.hid hq2
      clear hq2
      go_wp2_with fail
      go_ret2
      have a1 := HQ1.out
      have a2 := HQ2.out
      rw [Is_val HG.out, Is_val HN.out] at a1
      rw [Is_val HG.out, Is_val HD.out] at a2
      exact ⟨_, _, rfl, a1, a2, c12.then c3⟩

end Go.Proofs.YtogciehmdlfkfaaGreatDoor

/- Part Q2. -/

namespace Go.Proofs.YtogciehmdlfkfaaGreatDoor
open Go.RowKit Nd

/-- Three cells of a block, and that they may be written. -/
structure Blk3 (w : World) (g : Nat) (a b c : Value) : Prop where
  c0 : w.cell? ⟨g, 0, none⟩ = some a
  c1 : w.cell? ⟨g, 1, none⟩ = some b
  c2 : w.cell? ⟨g, 2, none⟩ = some c
  f0 : w.frozen? ⟨g, 0, none⟩ = false
  f1 : w.frozen? ⟨g, 1, none⟩ = false
  f2 : w.frozen? ⟨g, 2, none⟩ = false
  lt : g < w.heap.size
theorem Blk3.alloc (w : World) (a b c : Value) (e : TypeId) : Blk3 (w.alloc (.cells #[a, b, c] e)) w.heap.size a b c := by
  constructor <;> simp
theorem Blk3.keep {gs : List Nat} {w w' : World} {g : Nat} {a b c : Value} (h : Blk3 w g a b c) (hc : Chg gs w w') (hg : g ∉ gs) : Blk3 w' g a b c := by
  have hl := h.lt
  refine ⟨(hc.cell hl hg).trans h.c0, (hc.cell hl hg).trans h.c1, (hc.cell hl hg).trans h.c2, ?_, ?_, ?_, Nat.lt_of_lt_of_le hl hc.size⟩
  · exact (World.frozen?_of_block (hc.block _ hl hg)).trans h.f0
  · exact (World.frozen?_of_block (hc.block _ hl hg)).trans h.f1
  · exact (World.frozen?_of_block (hc.block _ hl hg)).trans h.f2

theorem Blk3.store {w : World} {g : Nat} {a b c : Value} (h : Blk3 w g a b c) (a' b' c' : Value) : Blk3 (((w.setCell ⟨g, 0, none⟩ a').setCell ⟨g, 1, none⟩ b').setCell ⟨g, 2, none⟩ c') g a' b' c' := by
  obtain ⟨c0, c1, c2, f0, f1, f2, l⟩ := h
  refine ⟨?_, ?_, ?_, ?_, ?_, ?_, ?_⟩
  · simp [go_sem, c0]
  · simp [go_sem, c1]
  · simp [go_sem, c2]
  · rw [World.frozen?_setCell, World.frozen?_setCell, World.frozen?_setCell]; exact f0
  · rw [World.frozen?_setCell, World.frozen?_setCell, World.frozen?_setCell]; exact f1
  · rw [World.frozen?_setCell, World.frozen?_setCell, World.frozen?_setCell]; exact f2
  · simpa using l
theorem Chg.store3 {gs : List Nat} {w0 w : World} {g : Nat} (h : Chg gs w0 w) (hg : g ∈ gs ∨ w0.heap.size ≤ g) (a b c : Value) : Chg gs w0 (((w.setCell ⟨g, 0, none⟩ a).setCell ⟨g, 1, none⟩ b).setCell ⟨g, 2, none⟩ c) :=
  ((h.setCell hg _).setCell hg _).setCell hg _

theorem okB_eq (neg : Bool) (num den : ByteArray) : okB ⟨neg, num, den⟩ = (nolB num && nolB den && !(den.toList == [1]) && (if num.toList.isEmpty then den.toList.isEmpty && !neg else den.toList.isEmpty || decide (Nat.gcd (val num) (val den) = 1))) := by
  unfold okB
  cases h1 : nolB num
  · simp
  · cases h2 : nolB den
    · simp
    · have e1 : num.toList.isEmpty = decide (val num = 0) := Is_empty ⟨rfl, nolB_iff.1 h1⟩
      have e2 : den.toList.isEmpty = decide (val den = 0) := Is_empty ⟨rfl, nolB_iff.1 h2⟩
      have e3 : (den.toList == [1]) = decide (val den = 1) := Is_isone ⟨rfl, nolB_iff.1 h2⟩
      rw [e1, e2, e3]
      by_cases h : val den = 1 <;> simp [h]

set_option maxRecDepth 20000 in
theorem Valid_any (x : Q3) (w : World) (h1 : x.num.size ≤ 1099511627776) (h2 : x.den.size ≤ 1099511627776) :
    Calls Tryz.prog 83 #[.agg #[.bool x.neg, .string x.num, .string x.den]] w fun e w' => e = .returned (.bool (okB x)) ∧ Chg [] w w' := by
  obtain ⟨neg, num, den⟩ := x
  simp only at h1 h2
  show Calls _ _ #[.agg #[.bool neg, .string num, .string den]] w _
  rw [okB_eq]
  obtain ⟨r, HR⟩ := name_it (nolB num && nolB den && !(den.toList == [1]) && (if num.toList.isEmpty then den.toList.isEmpty && !neg else den.toList.isEmpty || decide (Nat.gcd (val num) (val den) = 1)))
  rw [HR.out]
  have hch : Chg [] w (w.alloc (.cells #[.bool neg, .string num, .string den] 25)) := (Chg.refl _ _).alloc _
  obtain ⟨b1, B1⟩ := name_it (nolB num)
  obtain ⟨b2, B2⟩ := name_it (nolB den)
  rw [B1.out, B2.out] at HR
  cases b1
  · have HR2 : Hid (r = false) := by show _ = _; rw [← HR.out]; rfl
    go_enter Tryz.func83, Tryz.ntmps83
    go_wp2_with fail
    refine (normal_any num _ h1).mono ?_
    rintro e w1 ⟨rfl, rfl⟩
    rw [B1.out]
    go_wp2_with fail
    go_ret
    exact ⟨ret_eq (by rw [HR2.out]; rfl), hch⟩
  cases b2
  · have HR2 : Hid (r = false) := by show _ = _; rw [← HR.out]; simp
    go_enter Tryz.func83, Tryz.ntmps83
    go_wp2_with fail
    refine (normal_any num _ h1).mono ?_
    rintro e w1 ⟨rfl, rfl⟩
    rw [B1.out]
    go_wp2_with fail
    refine (normal_any den _ h2).mono ?_
    rintro e w1 ⟨rfl, rfl⟩
    rw [B2.out]
    go_wp2_with fail
    go_ret
    exact ⟨ret_eq (by rw [HR2.out]; rfl), hch⟩
  by_cases b3 : (den.toList == [1]) = true
  · have HR2 : Hid (r = false) := by show _ = _; rw [← HR.out, b3]; simp
    go_enter Tryz.func83, Tryz.ntmps83
    go_wp2_with fail
    refine (normal_any num _ h1).mono ?_
    rintro e w1 ⟨rfl, rfl⟩
    rw [B1.out]
    go_wp2_with fail
    refine (normal_any den _ h2).mono ?_
    rintro e w1 ⟨rfl, rfl⟩
    rw [B2.out]
    go_wp2_with fail
    go_ret
    exact ⟨ret_eq (by rw [HR2.out]; rfl), hch⟩
  have b3' : (den.toList == [1]) = false := by simpa using b3
  rw [b3'] at HR
  clear b3
  by_cases z : num.toList.isEmpty = true
  · have HR2 : Hid (r = (den.toList.isEmpty && !neg)) := by show _ = _; rw [← HR.out, z]; simp
    obtain ⟨b4, B4⟩ := name_it den.toList.isEmpty
    have hb4 := B4.out
    rw [hb4] at HR2
    cases b4 <;> cases neg
    all_goals
      go_enter Tryz.func83, Tryz.ntmps83
      go_wp2_with fail
      refine (normal_any num _ h1).mono ?_
      rintro e w1 ⟨rfl, rfl⟩
      rw [B1.out]
      go_wp2_with fail
      refine (normal_any den _ h2).mono ?_
      rintro e w1 ⟨rfl, rfl⟩
      rw [B2.out]
      go_wp2_with fail
      go_ret
      exact ⟨ret_eq (by rw [HR2.out]; rfl), hch⟩
  · have z' : num.toList.isEmpty = false := by simpa using z
    have HR2 : Hid (r = (den.toList.isEmpty || decide (Nat.gcd (val num) (val den) = 1))) := by show _ = _; rw [← HR.out, z']; simp
    clear z
    by_cases d0 : den.toList.isEmpty = true
    · have HR3 : Hid (r = true) := by show _ = _; rw [HR2.out, d0]; rfl
      go_enter Tryz.func83, Tryz.ntmps83
      go_wp2_with fail
      refine (normal_any num _ h1).mono ?_
      rintro e w1 ⟨rfl, rfl⟩
      rw [B1.out]
      go_wp2_with fail
      refine (normal_any den _ h2).mono ?_
      rintro e w1 ⟨rfl, rfl⟩
      rw [B2.out]
      go_wp2_with fail
      go_ret
      exact ⟨ret_eq (by rw [HR3.out]; rfl), hch⟩
    · have d0' : den.toList.isEmpty = false := by simpa using d0
      rw [d0'] at HR2
      clear d0
      go_enter Tryz.func83, Tryz.ntmps83
      go_wp2_with fail
      refine (normal_any num _ h1).mono ?_
      rintro e w1 ⟨rfl, rfl⟩
      rw [B1.out]
      go_wp2_with fail
      refine (normal_any den _ h2).mono ?_
      rintro e w1 ⟨rfl, rfl⟩
      rw [B2.out]
      go_wp2_with fail
      refine (GCD_any num den _ h1 h2).mono ?_
      rintro e w1 ⟨g, rfl, hg, c1⟩
      have hg1 := Is_isone hg
      have HG := Lib.hid hg1
      clear hg hg1
      obtain ⟨y, HY⟩ := name_it (decide (Nat.gcd (val num) (val den) = 1))
      rw [HY.out] at HG HR2
      have hy := HG.out
      go_wp2_with fail
      go_ret
      exact ⟨ret_eq (by rw [HR2.out]; rfl), hch.then c1⟩

set_option maxRecDepth 20000 in
theorem counted_any (x : Q3) (w : World) (h1 : x.num.size ≤ 1099511627776) (h2 : x.den.size ≤ 1099511627776) :
    Calls Tryz.prog 54 #[.agg #[.bool x.neg, .string x.num, .string x.den]] w fun e w' => ∃ y, e = .returned (.agg #[.bool y.neg, .string y.num, .string y.den]) ∧ Enc y (ratOf x) ∧ Chg [] w w' := by
  have hch : Chg [] w ((w.alloc (.cells #[.bool x.neg, .string x.num, .string x.den] 25)).alloc (.cells #[.bool false, .string ⟨#[]⟩, .string ⟨#[]⟩] 25)) := ((Chg.refl _ _).alloc _).alloc _
  by_cases hok : okB x = true
  · have HE := Lib.hid (ok_enc hok)
    have HO := Lib.hid hok
    clear hok
    go_enter Tryz.func54, Tryz.ntmps54
    go_wp2_with fail
    refine (Valid_any x _ h1 h2).mono ?_
    rintro e w1 ⟨rfl, c1⟩
    rw [HO.out]
    have B := (Blk3.alloc w (.bool x.neg) (.string x.num) (.string x.den) 25).keep ((Chg.refl [] _).alloc (.cells #[.bool false, .string ⟨#[]⟩, .string ⟨#[]⟩] 25)) (by simp)
    have B1 := B.keep c1 (by simp)
    have B2 := (Blk3.alloc (w.alloc (.cells #[.bool x.neg, .string x.num, .string x.den] 25)) (.bool false) (.string ⟨#[]⟩) (.string ⟨#[]⟩) 25).keep c1 (by simp)
    rw [World.size_alloc] at B2
    obtain ⟨k0, k1, k2, f0, f1, f2, l1⟩ := B1
    have B2' := B2
    obtain ⟨m0, m1, m2, g0, g1, g2, l2⟩ := B2
    have hch1 := hch.then c1
    clear B c1 hch
    go_wp2_with fail
    have S := B2'.store (.bool x.neg) (.string x.num) (.string x.den)
    exact bodyPost_ret (v := .agg #[.bool x.neg, .string x.num, .string x.den]) (by simp [results, Tryz.results54, go_sem, S.c0, S.c1, S.c2]) rfl ⟨x, rfl, HE.out, hch1.store3 (.inr (by omega)) _ _ _⟩
  · have hok' : okB x = false := by simpa using hok
    have HE : Hid (Enc ⟨false, ⟨#[]⟩, ⟨#[]⟩⟩ (ratOf x)) := Lib.hid (by rw [bad_rat hok']; exact Enc_zero)
    have HO := Lib.hid hok'
    clear hok hok'
    go_enter Tryz.func54, Tryz.ntmps54
    go_wp2_with fail
    refine (Valid_any x _ h1 h2).mono ?_
    rintro e w1 ⟨rfl, c1⟩
    rw [HO.out]
    have B := (Blk3.alloc w (.bool x.neg) (.string x.num) (.string x.den) 25).keep ((Chg.refl [] _).alloc (.cells #[.bool false, .string ⟨#[]⟩, .string ⟨#[]⟩] 25)) (by simp)
    have B1 := B.keep c1 (by simp)
    have B2 := (Blk3.alloc (w.alloc (.cells #[.bool x.neg, .string x.num, .string x.den] 25)) (.bool false) (.string ⟨#[]⟩) (.string ⟨#[]⟩) 25).keep c1 (by simp)
    rw [World.size_alloc] at B2
    obtain ⟨k0, k1, k2, f0, f1, f2, l1⟩ := B1
    have B2' := B2
    obtain ⟨m0, m1, m2, g0, g1, g2, l2⟩ := B2
    have hch1 := hch.then c1
    clear B c1 hch
    go_wp2_with fail
    have S := B2'.store (.bool false) (.string ⟨#[]⟩) (.string ⟨#[]⟩)
    exact bodyPost_ret (v := .agg #[.bool false, .string ⟨#[]⟩, .string ⟨#[]⟩]) (by simp [results, Tryz.results54, go_sem, S.c0, S.c1, S.c2]) rfl ⟨_, rfl, HE.out, hch1.store3 (.inr (by omega)) _ _ _⟩

set_option maxRecDepth 20000 in
/-- Make at the denominator 0. -/
theorem Make_zero (neg : Bool) (N D : ByteArray) (w : World) (hN : N.size ≤ 1099511627776) (hD : D.size ≤ 1099511627776) (h : val D = 0) :
    Calls Tryz.prog 185 #[.bool neg, .string N, .string D] w fun e w' => e = .returned (.tuple #[.agg #[.bool false, .string ⟨#[]⟩, .string ⟨#[]⟩], .bool false]) ∧ Chg [] w w' := by
  obtain ⟨p, HP⟩ := name_it (nrmB D)
  have hp : p.toList.isEmpty = true := by rw [← HP.out, Is_empty (Is_nrmB D), h]; rfl
  have hch : Chg [] w (w.alloc (.cells #[.bool false, .string ⟨#[]⟩, .string ⟨#[]⟩] 25)) := (Chg.refl _ _).alloc _
  clear h
  go_enter Tryz.func185, Tryz.ntmps185
  go_wp2_with fail
  refine (normalize_any N _ (by omega)).mono ?_
  rintro e w1 ⟨rfl, rfl⟩
  go_wp2_with fail
  refine (normalize_any D _ (by omega)).mono ?_
  rintro e w1 ⟨rfl, rfl⟩
  rw [HP.out]
  go_wp2_with fail
  exact bodyPost_ret (v := .tuple #[.agg #[.bool false, .string ⟨#[]⟩, .string ⟨#[]⟩], .bool false]) (by simp [results, Tryz.results185, go_sem]) rfl ⟨rfl, hch⟩
set_option maxRecDepth 20000 in
theorem Make_any (neg : Bool) (N D : ByteArray) (w : World) (hN : N.size ≤ 1099511627776) (hD : D.size ≤ 1099511627776) (h : val D ≠ 0) :
    Calls Tryz.prog 185 #[.bool neg, .string N, .string D] w fun e w' => ∃ x, e = .returned (.tuple #[.agg #[.bool x.neg, .string x.num, .string x.den], .bool true]) ∧ Enc x (sq neg (val N) (val D)) ∧ Chg [] w w' := by
  obtain ⟨p, HP⟩ := name_it (nrmB D)
  obtain ⟨q, HQ⟩ := name_it (nrmB N)
  have ip : Hid (Is p (val D)) := Lib.hid (by rw [← HP.out]; exact Is_nrmB D)
  have iq : Hid (Is q (val N)) := Lib.hid (by rw [← HQ.out]; exact Is_nrmB N)
  have hp : p.toList.isEmpty = false := by rw [Is_empty ip.out]; simpa using h
  have sp : p.size ≤ 1099511627776 := by rw [← HP.out]; exact Nat.le_trans (nrmB_size D) hD
  have sn : q.size ≤ 1099511627776 := by rw [← HQ.out]; exact Nat.le_trans (nrmB_size N) hN
  have hch : Chg [] w (w.alloc (.cells #[.bool false, .string ⟨#[]⟩, .string ⟨#[]⟩] 25)) := (Chg.refl _ _).alloc _
  have B := Lib.hid (Blk3.alloc w (.bool false) (.string ⟨#[]⟩) (.string ⟨#[]⟩) 25)
  have HZ := Lib.hid h
  clear h
  go_enter Tryz.func185, Tryz.ntmps185
  go_wp2_with fail
  refine (normalize_any N _ (by omega)).mono ?_
  rintro e w1 ⟨rfl, rfl⟩
  rw [HQ.out]
  go_wp2_with fail
  refine (normalize_any D _ (by omega)).mono ?_
  rintro e w1 ⟨rfl, rfl⟩
  rw [HP.out]
  go_wp2_with fail
  refine (lowest_any q p _ _ 1099511627776 _ iq.out ip.out HZ.out (Nat.le_refl _) sn sp).mono ?_
  rintro e w1 ⟨X, Y, rfl, hX, hY, c1⟩
  have HX := Lib.hid hX
  have HY := Lib.hid hY
  have hch1 := hch.then c1
  have B1 := Lib.hid (B.out.keep c1 (by simp))
  clear hX hY c1 hch B
  go_wp2_with fail
  refine (signed_any neg X Y _ _ _ HX.out HY.out (lowest_den HZ.out) (lowest_gcd HZ.out)).mono ?_
  rintro e w2 ⟨x, rfl, hx, c2⟩
  rw [sq_lowest HZ.out] at hx
  have HE := Lib.hid hx
  have hch2 := hch1.then c2
  have B2 := B1.out.keep c2 (by simp)
  have B2' := Lib.hid B2
  obtain ⟨k0, k1, k2, f0, f1, f2, l1⟩ := B2
  clear hx c2 hch1 B1
  go_wp2_with fail
  have S := B2'.out.store (.bool x.neg) (.string x.num) (.string x.den)
  exact bodyPost_ret (v := .tuple #[.agg #[.bool x.neg, .string x.num, .string x.den], .bool true]) (by simp [results, Tryz.results185, go_sem, S.c0, S.c1, S.c2]) rfl ⟨x, rfl, HE.out, hch2.store3 (.inr (by omega)) _ _ _⟩
end Go.Proofs.YtogciehmdlfkfaaGreatDoor

/- Part Q3. -/

namespace Go.Proofs.YtogciehmdlfkfaaGreatDoor
open Go.RowKit Nd

theorem Enc.sq' {x : Q3} {p : Rat} (h : Enc x p) : Nd.sq x.neg p.num.natAbs p.den = p := by rw [h.neg, sq_self]
theorem Enc.dn_size {x : Q3} {p : Rat} {k : Nat} (h : Enc x p) (b : Bd k p) : (Go.Proofs.YtogciehmdlfkfaaGreatDoor.dnS x).size ≤ k := Is_size h.dnS k b.2
theorem Enc.num_size {x : Q3} {p : Rat} {k : Nat} (h : Enc x p) (b : Bd k p) : x.num.size ≤ k := Is_size h.num k b.1
/-- What a function that boxes one number and makes a result lays. -/
theorem box1 (w : World) (x : Q3) (e : TypeId) : Blk3 ((w.alloc (.cells #[.bool x.neg, .string x.num, .string x.den] e)).alloc (.cells #[.bool false, .string ⟨#[]⟩, .string ⟨#[]⟩] e)) w.heap.size (.bool x.neg) (.string x.num) (.string x.den) ∧
    Blk3 ((w.alloc (.cells #[.bool x.neg, .string x.num, .string x.den] e)).alloc (.cells #[.bool false, .string ⟨#[]⟩, .string ⟨#[]⟩] e)) (w.heap.size + 1) (.bool false) (.string ⟨#[]⟩) (.string ⟨#[]⟩) ∧
    Chg [] w ((w.alloc (.cells #[.bool x.neg, .string x.num, .string x.den] e)).alloc (.cells #[.bool false, .string ⟨#[]⟩, .string ⟨#[]⟩] e)) := by
  refine ⟨(Blk3.alloc w _ _ _ e).keep ((Chg.refl [] _).alloc _) (by simp), ?_, ((Chg.refl _ _).alloc _).alloc _⟩
  have := Blk3.alloc (w.alloc (.cells #[.bool x.neg, .string x.num, .string x.den] e)) (.bool false) (.string ⟨#[]⟩) (.string ⟨#[]⟩) e
  rw [World.size_alloc] at this
  exact this
/-- Two boxed numbers. -/
theorem box2 (w : World) (x y : Q3) (e : TypeId) : Blk3 ((w.alloc (.cells #[.bool x.neg, .string x.num, .string x.den] e)).alloc (.cells #[.bool y.neg, .string y.num, .string y.den] e)) w.heap.size (.bool x.neg) (.string x.num) (.string x.den) ∧
    Blk3 ((w.alloc (.cells #[.bool x.neg, .string x.num, .string x.den] e)).alloc (.cells #[.bool y.neg, .string y.num, .string y.den] e)) (w.heap.size + 1) (.bool y.neg) (.string y.num) (.string y.den) ∧
    Chg [] w ((w.alloc (.cells #[.bool x.neg, .string x.num, .string x.den] e)).alloc (.cells #[.bool y.neg, .string y.num, .string y.den] e)) := by
  refine ⟨(Blk3.alloc w _ _ _ e).keep ((Chg.refl [] _).alloc _) (by simp), ?_, ((Chg.refl _ _).alloc _).alloc _⟩
  have := Blk3.alloc (w.alloc (.cells #[.bool x.neg, .string x.num, .string x.den] e)) (.bool y.neg) (.string y.num) (.string y.den) e
  rw [World.size_alloc] at this
  exact this
/-- Two boxed numbers and a result. -/
theorem box3 (w : World) (x y : Q3) (e : TypeId) : Blk3 (((w.alloc (.cells #[.bool x.neg, .string x.num, .string x.den] e)).alloc (.cells #[.bool y.neg, .string y.num, .string y.den] e)).alloc (.cells #[.bool false, .string ⟨#[]⟩, .string ⟨#[]⟩] e)) w.heap.size (.bool x.neg) (.string x.num) (.string x.den) ∧
    Blk3 (((w.alloc (.cells #[.bool x.neg, .string x.num, .string x.den] e)).alloc (.cells #[.bool y.neg, .string y.num, .string y.den] e)).alloc (.cells #[.bool false, .string ⟨#[]⟩, .string ⟨#[]⟩] e)) (w.heap.size + 1) (.bool y.neg) (.string y.num) (.string y.den) ∧
    Blk3 (((w.alloc (.cells #[.bool x.neg, .string x.num, .string x.den] e)).alloc (.cells #[.bool y.neg, .string y.num, .string y.den] e)).alloc (.cells #[.bool false, .string ⟨#[]⟩, .string ⟨#[]⟩] e)) (w.heap.size + 1 + 1) (.bool false) (.string ⟨#[]⟩) (.string ⟨#[]⟩) ∧
    Chg [] w (((w.alloc (.cells #[.bool x.neg, .string x.num, .string x.den] e)).alloc (.cells #[.bool y.neg, .string y.num, .string y.den] e)).alloc (.cells #[.bool false, .string ⟨#[]⟩, .string ⟨#[]⟩] e)) := by
  obtain ⟨h1, h2, h3⟩ := box2 w x y e
  refine ⟨h1.keep ((Chg.refl [] _).alloc _) (by simp), h2.keep ((Chg.refl [] _).alloc _) (by simp), ?_, h3.alloc _⟩
  have := Blk3.alloc ((w.alloc (.cells #[.bool x.neg, .string x.num, .string x.den] e)).alloc (.cells #[.bool y.neg, .string y.num, .string y.den] e)) (.bool false) (.string ⟨#[]⟩) (.string ⟨#[]⟩) e
  rw [World.size_alloc, World.size_alloc] at this
  exact this

/-- What Fraction and the reference's take for the sign. -/
def fsg (a b : Int) : Bool := (decide (a < 0)) != (decide (b < 0))

end Go.Proofs.YtogciehmdlfkfaaGreatDoor
