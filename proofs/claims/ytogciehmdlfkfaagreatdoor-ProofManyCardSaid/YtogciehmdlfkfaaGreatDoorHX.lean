/-
  Several parts put together: DX11.
-/
import Derived.Test.YtogciehmdlfkfaaGreatDoorHB
import Derived.Test.YtogciehmdlfkfaaGreatDoorHD
import Derived.Lib.ItoaLen
import Derived.Sort.Grow
import Derived.Lib.Join
/- Part DX11. -/

namespace Go.Proofs.YtogciehmdlfkfaaGreatDoor
open Go.RowKit Nd Go.Sort

def small (x : ByteArray) : Prop := x.size ≤ 20000
def joinW (xs : List ByteArray) : List UInt8 := Lib.join (xs.map (·.data.toList)) [32]
/-- A line with these words. -/
def lineB (xs : List ByteArray) : ByteArray := ⟨(joinW xs ++ [10]).toArray⟩
theorem lineB_data (xs : List ByteArray) : (lineB xs).data.toList = joinW xs ++ [10] := by simp [lineB]
/-- Words in memory, few and short. -/
structure LW (w : World) (A : Option Addr) (xs : List ByteArray) : Prop where
  s : SWd w A xs
  n : xs.length ≤ 4
  n0 : 1 ≤ xs.length
  z : ∀ x ∈ xs, small x
theorem LW2 (w : World) (a b : ByteArray) (e : TypeId) (ha : small a) (hb : small b) : LW (w.alloc (.cells #[.string a, .string b] e)) (some ⟨w.heap.size, 0, none⟩) [a, b] :=
  ⟨SWd_new w [a, b] e, by simp, by simp, fun x hx => by simp at hx; rcases hx with rfl | rfl <;> assumption⟩
theorem LW3 (w : World) (a b c : ByteArray) (e : TypeId) (ha : small a) (hb : small b) (hc : small c) : LW (w.alloc (.cells #[.string a, .string b, .string c] e)) (some ⟨w.heap.size, 0, none⟩) [a, b, c] :=
  ⟨SWd_new w [a, b, c] e, by simp, by simp, fun x hx => by simp at hx; rcases hx with rfl | rfl | rfl <;> assumption⟩
theorem LW4 (w : World) (a b c d : ByteArray) (e : TypeId) (ha : small a) (hb : small b) (hc : small c) (hd : small d) : LW (w.alloc (.cells #[.string a, .string b, .string c, .string d] e)) (some ⟨w.heap.size, 0, none⟩) [a, b, c, d] :=
  ⟨SWd_new w [a, b, c, d] e, by simp, by simp, fun x hx => by simp at hx; rcases hx with rfl | rfl | rfl | rfl <;> assumption⟩
theorem joinW_len : ∀ (xs : List ByteArray), (∀ x ∈ xs, small x) → (joinW xs).length ≤ xs.length * 20001
  | [], _ => by simp [joinW, Lib.join_nil]
  | x :: r, h => by
    unfold joinW
    rw [List.map_cons, Lib.join_cons]
    have hx : x.data.toList.length ≤ 20000 := by rw [size_len]; exact h x (by simp)
    have key : ∀ r : List ByteArray, (∀ x ∈ r, small x) → (Lib.joinTail [32] (r.map (·.data.toList))).length ≤ r.length * 20001 := by
      intro r
      induction r with
      | nil => intro _; simp [Lib.joinTail]
      | cons y t ih =>
        intro hr
        have h1 := ih (fun x hx => hr x (by simp [hx]))
        have hy : y.data.toList.length ≤ 20000 := by rw [size_len]; exact hr y (by simp)
        unfold Lib.joinTail at h1 ⊢
        simp only [List.map_cons, List.flatten_cons, List.length_append, List.length_cons, List.length_nil] at h1 ⊢
        omega
    have := key r (fun x hx => h x (by simp [hx]))
    rw [List.length_append, List.length_cons]
    omega
set_option maxRecDepth 20000 in
theorem lineOf_any (xs : List ByteArray) (g n c : Nat) (w : World) (hx : LW w (some ⟨g, 0, none⟩) xs) (hn : xs.length = n) (hc : n ≤ c) :
    Calls Tryz.prog 70 #[.slice (some ⟨g, 0, none⟩) n c] w fun e w' => e = .returned (.string (lineB xs)) ∧ Chg [] w w' := by
  obtain ⟨hs, h4, h0, hz⟩ := hx
  have hl := joinW_len xs hz
  obtain ⟨g', o', e', hg, hcell⟩ := hs (by omega)
  cases e'
  have hcells : ∀ (j : Nat) x, xs[j]? = some x → w.cell? ⟨g, 0 + j, none⟩ = some (.string x) := by
    intro j x hj
    have hjl : j < xs.length := by
      rcases Nat.lt_or_ge j xs.length with h | h
      · exact h
      · rw [List.getElem?_eq_none h] at hj; cases hj
    have := (hcell j hjl).c0
    rw [List.getD_eq_getElem?_getD, hj, Option.getD_some, Nat.mul_one] at this
    exact this
  have key : Calls Tryz.prog 97 #[.slice (some ⟨g, 0, none⟩) n c, .string ⟨#[32]⟩] w fun e w' => e = .returned (.string ⟨(joinW xs).toArray⟩) ∧ Chg [] w w' := by
    have := Tryz.strings_Join g 0 c xs ⟨#[32]⟩ w hcells hg (by omega) (by omega) (by show (joinW xs).length ≤ _; omega)
    rw [hn] at this
    exact this.mono fun e w' ⟨h1, h2⟩ => ⟨h1, Chg.of_below h2⟩
  obtain ⟨J, HJ⟩ := name_it (⟨(joinW xs).toArray⟩ : ByteArray)
  rw [HJ.out] at key
  obtain ⟨L, HL⟩ := name_it (lineB xs)
  have HLL : Hid (J ++ ⟨#[10]⟩ = L) := by
    show _ = _
    rw [← HL.out, ← HJ.out]
    apply ByteArray.ext
    apply Array.toList_inj.1
    simp [lineB]
  rw [HL.out]
  have hJ : J.size ≤ 100000 := by rw [← HJ.out]; show (joinW xs).toArray.size ≤ _; rw [List.size_toArray]; omega
  clear hcells hcell hs hz hl
  go_enter Tryz.func70, Tryz.ntmps70
  go_wp2_with fail
  refine key.mono ?_
  rintro e w3 ⟨rfl, c3⟩
  go_wp2_with fail
  go_ret
  exact ⟨ret_eq (by rw [← HLL.out]; rfl), c3⟩
/-- The decimal digits of an int that is not negative, as a string. -/
def itB (n : Int) : ByteArray := ⟨(itL n).toArray⟩
theorem ba_eta (x : ByteArray) : (⟨x.data.toList.toArray⟩ : ByteArray) = x := by simp
theorem Chg.of_grow {w : World} (k : Nat) (os : Array Obj) : Chg [] w (grow (w.drewN k) os) := by
  exact ⟨rfl, rfl, rfl, by simp, fun j hj _ => heap_grow_old _ _ hj⟩
theorem itoa_any (n : Int) (h0 : 0 ≤ n) (h1 : n ≤ 9223372036854775807) (w : World) (hg : Gl w) :
    Calls Tryz.prog 71 #[.int .i64 n] w fun e w' => e = .returned (.string (itB n)) ∧ Chg [] w w' := by
  refine (Tryz.strconv_Itoa n (by omega) h1 w hg.tab).mono ?_
  rintro e w' ⟨rfl, k, os, rfl⟩
  refine ⟨?_, Chg.of_grow k os⟩
  obtain ⟨m, rfl⟩ : ∃ m : Nat, n = m := ⟨n.toNat, by omega⟩
  rw [itoa_decL]; rfl
theorem itB_small (n : Int) (h0 : 0 ≤ n) (h1 : n ≤ 9223372036854775807) : small (itB n) := by
  have := Lib.itoa_length_le n (by omega) h1
  obtain ⟨m, rfl⟩ : ∃ m : Nat, n = m := ⟨n.toNat, by omega⟩
  rw [itoa_decL] at this
  show (decL m).toArray.size ≤ 20000
  rw [List.size_toArray]; omega
def fmB (q : Rat) : ByteArray := ⟨(fmtL q).toArray⟩
theorem fmt_any (x : Q3) (w : World) (hx : fits x 4000) :
    Calls Tryz.prog 72 #[.agg #[.bool x.neg, .string x.num, .string x.den]] w fun e w' => e = .returned (.string (fmB (ratOf x))) ∧ Chg [] w w' := by
  refine (Format_any x 4000 w hx (by omega) (by omega)).mono ?_
  rintro e w' ⟨s, rfl, hs, hc⟩
  refine ⟨?_, hc⟩
  rw [show s = fmB (ratOf x) from by unfold fmB; rw [← hs]]
/-- What document wants of a document: small strings, ints that are not negative. -/
structure DocP (p : Pf) : Prop where
  fit : FitP p
  id : small p.id
  cd : small p.cd
  am : small (fmB (ratOf p.am))
  rt : small (fmB (ratOf p.rt))
  es : 0 ≤ p.es ∧ p.es ≤ 9223372036854775807
  cr : 0 ≤ p.cr ∧ p.cr ≤ 9223372036854775807
  inc : 0 ≤ p.inc ∧ p.inc ≤ 9223372036854775807
  rk : 0 ≤ p.rk ∧ p.rk ≤ 9223372036854775807
  rf : 0 ≤ p.rf ∧ p.rf ≤ 9223372036854775807
  sec : p.sec ≠ -1 → 0 ≤ p.sec ∧ p.sec ≤ 9223372036854775807
def docA (p : Pf) : ByteArray := lineB [kPro, p.id] ++ lineB [kEst, itB p.es] ++ lineB [kCre, itB p.cr] ++ lineB [kAmo, p.cd, fmB (ratOf p.am)] ++ lineB [kInc, itB p.inc] ++ lineB [kRan, itB p.rk]
def docB (p : Pf) : ByteArray := if 0 < sg (ratOf p.rt) then docA p ++ lineB [kInt, fmB (ratOf p.rt), kFro, itB p.rf] else docA p
def docC (p : Pf) : ByteArray := if p.sec ≠ -1 then docB p ++ lineB [kSec, itB p.sec] else docB p
theorem docC_data (p : Pf) : (docC p).data.toList = docL p := by
  have j2 : ∀ a b : ByteArray, joinW [a, b] = a.data.toList ++ 32 :: b.data.toList := by
    intro a b; simp [joinW, Lib.join_cons, Lib.joinTail]
  have j3 : ∀ a b c : ByteArray, joinW [a, b, c] = a.data.toList ++ 32 :: (b.data.toList ++ 32 :: c.data.toList) := by
    intro a b c; simp [joinW, Lib.join_cons, Lib.joinTail]
  have j4 : ∀ a b c d : ByteArray, joinW [a, b, c, d] = a.data.toList ++ 32 :: (b.data.toList ++ 32 :: (c.data.toList ++ 32 :: d.data.toList)) := by
    intro a b c d; simp [joinW, Lib.join_cons, Lib.joinTail]
  unfold docC docB docA docL
  split <;> split <;> simp [lineB_data, itB, fmB, *]
theorem Chg.ald {gs : List Nat} {a w : World} (h : Chg gs a w.drew) (o : Obj) : Chg gs a (w.alloc o).drew := ((show Chg gs a w from ⟨h.os, h.tape, h.output, h.size, h.block⟩).alloc o).drew
theorem LW.drw {w : World} {A : Option Addr} {xs : List ByteArray} (h : LW w A xs) : LW w.drew A xs := ⟨h.s.keep0 (Chg.refl [] w).drew, h.n, h.n0, h.z⟩
theorem LW.keep0 {w w' : World} {A : Option Addr} {xs : List ByteArray} (h : LW w A xs) (hc : Chg [] w w') : LW w' A xs := ⟨h.s.keep0 hc, h.n, h.n0, h.z⟩
theorem lineB_size (xs : List ByteArray) (h4 : xs.length ≤ 4) (hz : ∀ x ∈ xs, small x) : (lineB xs).size ≤ 100000 := by
  have := joinW_len xs hz
  show (joinW xs ++ [10]).toArray.size ≤ _
  rw [List.size_toArray, List.length_append, List.length_singleton]
  omega
/-- The walk's state: the document's box, the change, the package-level variables. -/
structure DSt (W w : World) (g : Nat) (p : Pf) : Prop where
  b : BlkPf w g (.string p.id) (.int .i64 p.es) (.int .i64 p.cr) (.string p.cd) (.bool p.am.neg) (.string p.am.num) (.string p.am.den) (.int .i64 p.inc) (.int .i64 p.rk) (.bool p.rt.neg) (.string p.rt.num) (.string p.rt.den) (.int .i64 p.rf) (.int .i64 p.sec)
  ch : Chg [] W w
  gl : Gl w
theorem DSt.keep0 {W w w' : World} {g : Nat} {p : Pf} (h : DSt W w g p) (hc : Chg [] w w') : DSt W w' g p := ⟨h.b.keep0 hc, h.ch.then hc, h.gl.keep0 hc⟩
theorem DSt.cells {W w : World} {g : Nat} {p : Pf} (h : DSt W w g p) : w.cell? ⟨g, 0, none⟩ = some (.string p.id) ∧ w.cell? ⟨g, 1, none⟩ = some (.int .i64 p.es) ∧ w.cell? ⟨g, 2, none⟩ = some (.int .i64 p.cr) ∧ w.cell? ⟨g, 3, none⟩ = some (.string p.cd) ∧ w.cell? ⟨g, 4, none⟩ = some (.bool p.am.neg) ∧ w.cell? ⟨g, 5, none⟩ = some (.string p.am.num) ∧ w.cell? ⟨g, 6, none⟩ = some (.string p.am.den) ∧ w.cell? ⟨g, 7, none⟩ = some (.int .i64 p.inc) ∧ w.cell? ⟨g, 8, none⟩ = some (.int .i64 p.rk) ∧ w.cell? ⟨g, 9, none⟩ = some (.bool p.rt.neg) ∧ w.cell? ⟨g, 10, none⟩ = some (.string p.rt.num) ∧ w.cell? ⟨g, 11, none⟩ = some (.string p.rt.den) ∧ w.cell? ⟨g, 12, none⟩ = some (.int .i64 p.rf) ∧ w.cell? ⟨g, 13, none⟩ = some (.int .i64 p.sec) :=
  ⟨h.b.c0, h.b.c1, h.b.c2, h.b.c3, h.b.c4, h.b.c5, h.b.c6, h.b.c7, h.b.c8, h.b.c9, h.b.c10, h.b.c11, h.b.c12, h.b.c13⟩
theorem DSt.c0 {W w : World} {g : Nat} {p : Pf} (h : DSt W w g p) : w.cell? ⟨g, 0, none⟩ = some (.string p.id) := h.b.c0
theorem DSt.c1 {W w : World} {g : Nat} {p : Pf} (h : DSt W w g p) : w.cell? ⟨g, 1, none⟩ = some (.int .i64 p.es) := h.b.c1
theorem DSt.c2 {W w : World} {g : Nat} {p : Pf} (h : DSt W w g p) : w.cell? ⟨g, 2, none⟩ = some (.int .i64 p.cr) := h.b.c2
theorem DSt.c3 {W w : World} {g : Nat} {p : Pf} (h : DSt W w g p) : w.cell? ⟨g, 3, none⟩ = some (.string p.cd) := h.b.c3
theorem DSt.c4 {W w : World} {g : Nat} {p : Pf} (h : DSt W w g p) : w.cell? ⟨g, 4, none⟩ = some (.bool p.am.neg) := h.b.c4
theorem DSt.c5 {W w : World} {g : Nat} {p : Pf} (h : DSt W w g p) : w.cell? ⟨g, 5, none⟩ = some (.string p.am.num) := h.b.c5
theorem DSt.c6 {W w : World} {g : Nat} {p : Pf} (h : DSt W w g p) : w.cell? ⟨g, 6, none⟩ = some (.string p.am.den) := h.b.c6
theorem DSt.c7 {W w : World} {g : Nat} {p : Pf} (h : DSt W w g p) : w.cell? ⟨g, 7, none⟩ = some (.int .i64 p.inc) := h.b.c7
theorem DSt.c8 {W w : World} {g : Nat} {p : Pf} (h : DSt W w g p) : w.cell? ⟨g, 8, none⟩ = some (.int .i64 p.rk) := h.b.c8
theorem DSt.c9 {W w : World} {g : Nat} {p : Pf} (h : DSt W w g p) : w.cell? ⟨g, 9, none⟩ = some (.bool p.rt.neg) := h.b.c9
theorem DSt.c10 {W w : World} {g : Nat} {p : Pf} (h : DSt W w g p) : w.cell? ⟨g, 10, none⟩ = some (.string p.rt.num) := h.b.c10
theorem DSt.c11 {W w : World} {g : Nat} {p : Pf} (h : DSt W w g p) : w.cell? ⟨g, 11, none⟩ = some (.string p.rt.den) := h.b.c11
theorem DSt.c12 {W w : World} {g : Nat} {p : Pf} (h : DSt W w g p) : w.cell? ⟨g, 12, none⟩ = some (.int .i64 p.rf) := h.b.c12
theorem DSt.c13 {W w : World} {g : Nat} {p : Pf} (h : DSt W w g p) : w.cell? ⟨g, 13, none⟩ = some (.int .i64 p.sec) := h.b.c13
set_option maxRecDepth 20000 in
set_option maxHeartbeats 8000000 in
theorem document_any (p : Pf) (w : World) (hp : DocP p) (hgl0 : Gl w) :
    Calls Tryz.prog 47 #[.agg #[.string p.id, .int .i64 p.es, .int .i64 p.cr, .string p.cd, .bool p.am.neg, .string p.am.num, .string p.am.den, .int .i64 p.inc, .int .i64 p.rk, .bool p.rt.neg, .string p.rt.num, .string p.rt.den, .int .i64 p.rf, .int .i64 p.sec]] w fun e w' => e = .returned (.string (docC p)) ∧ Chg [] w w' := by
  have b := BlkPf.alloc w (.string p.id) (.int .i64 p.es) (.int .i64 p.cr) (.string p.cd) (.bool p.am.neg) (.string p.am.num) (.string p.am.den) (.int .i64 p.inc) (.int .i64 p.rk) (.bool p.rt.neg) (.string p.rt.num) (.string p.rt.den) (.int .i64 p.rf) (.int .i64 p.sec) 27
  have hch : Chg [] w (w.alloc (.cells #[.string p.id, .int .i64 p.es, .int .i64 p.cr, .string p.cd, .bool p.am.neg, .string p.am.num, .string p.am.den, .int .i64 p.inc, .int .i64 p.rk, .bool p.rt.neg, .string p.rt.num, .string p.rt.den, .int .i64 p.rf, .int .i64 p.sec] 27)) := (Chg.refl _ _).alloc _
  have hgl := Lib.hid (hgl0.keep0 hch)
  have HF := Lib.hid hp.fit
  have Z1 := Lib.hid hp.id
  have Z2 := Lib.hid hp.cd
  have Z3 := Lib.hid hp.am
  have Z4 := Lib.hid hp.rt
  have N1 := Lib.hid hp.es
  have N2 := Lib.hid hp.cr
  have N3 := Lib.hid hp.inc
  have N4 := Lib.hid hp.rk
  have N5 := Lib.hid hp.rf
  have I1 := Lib.hid (itB_small _ hp.es.1 hp.es.2)
  have I2 := Lib.hid (itB_small _ hp.cr.1 hp.cr.2)
  have I3 := Lib.hid (itB_small _ hp.inc.1 hp.inc.2)
  have I4 := Lib.hid (itB_small _ hp.rk.1 hp.rk.2)
  have I5 := Lib.hid (itB_small _ hp.rf.1 hp.rf.2)
  have HSC := Lib.hid hp.sec
  have K2 : ∀ a b : ByteArray, small a → small b → (lineB [a, b]).size ≤ 100000 := fun a b ha hb => lineB_size _ (by simp) (by intro x hx; simp at hx; rcases hx with rfl | rfl <;> assumption)
  have z1 := K2 kPro p.id (show _ ≤ _ by decide) hp.id
  have z2 := K2 kEst (itB p.es) (show _ ≤ _ by decide) I1.out
  have z3 := K2 kCre (itB p.cr) (show _ ≤ _ by decide) I2.out
  have z4 := lineB_size [kAmo, p.cd, fmB (ratOf p.am)] (by simp) (by intro x hx; simp at hx; rcases hx with rfl | rfl | rfl; exact (show _ ≤ _ by decide); exact hp.cd; exact hp.am)
  have z5 := K2 kInc (itB p.inc) (show _ ≤ _ by decide) I3.out
  have z6 := K2 kRan (itB p.rk) (show _ ≤ _ by decide) I4.out
  have z7 := lineB_size [kInt, fmB (ratOf p.rt), kFro, itB p.rf] (by simp) (by intro x hx; simp at hx; rcases hx with rfl | rfl | rfl | rfl; exact (show _ ≤ _ by decide); exact hp.rt; exact (show _ ≤ _ by decide); exact I5.out)
  clear K2
  clear hgl0 hp
  obtain ⟨D, HD⟩ := name_it (docC p)
  rw [HD.out]
  obtain ⟨l1, L1⟩ := name_it (lineB [⟨#[112, 114, 111, 111, 102]⟩, p.id])
  replace z1 : l1.size ≤ 100000 := by rw [← L1.out]; exact z1
  obtain ⟨l2, L2⟩ := name_it (lineB [⟨#[101, 115, 116, 97, 116, 101]⟩, itB p.es])
  replace z2 : l2.size ≤ 100000 := by rw [← L2.out]; exact z2
  obtain ⟨l3, L3⟩ := name_it (lineB [⟨#[99, 114, 101, 100, 105, 116, 111, 114]⟩, itB p.cr])
  replace z3 : l3.size ≤ 100000 := by rw [← L3.out]; exact z3
  obtain ⟨l4, L4⟩ := name_it (lineB [⟨#[97, 109, 111, 117, 110, 116]⟩, p.cd, fmB (ratOf p.am)])
  replace z4 : l4.size ≤ 100000 := by rw [← L4.out]; exact z4
  obtain ⟨l5, L5⟩ := name_it (lineB [⟨#[105, 110, 99, 117, 114, 114, 101, 100]⟩, itB p.inc])
  replace z5 : l5.size ≤ 100000 := by rw [← L5.out]; exact z5
  obtain ⟨l6, L6⟩ := name_it (lineB [⟨#[114, 97, 110, 107]⟩, itB p.rk])
  replace z6 : l6.size ≤ 100000 := by rw [← L6.out]; exact z6
  obtain ⟨l7, L7⟩ := name_it (lineB [⟨#[105, 110, 116, 101, 114, 101, 115, 116]⟩, fmB (ratOf p.rt), ⟨#[102, 114, 111, 109]⟩, itB p.rf])
  replace z7 : l7.size ≤ 100000 := by rw [← L7.out]; exact z7
  obtain ⟨l8, L8⟩ := name_it (lineB [⟨#[115, 101, 99, 117, 114, 101, 100]⟩, itB p.sec])
  have hA : Hid (docA p = l1 ++ l2 ++ l3 ++ l4 ++ l5 ++ l6) := by
    show _ = _
    rw [← L1.out, ← L2.out, ← L3.out, ← L4.out, ← L5.out, ← L6.out]; rfl
  have hB1 : Hid (0 < sg (ratOf p.rt) → docB p = l1 ++ l2 ++ l3 ++ l4 ++ l5 ++ l6 ++ l7) := by
    show _ → _
    intro h; unfold docB; rw [if_pos h, hA.out, ← L7.out]; rfl
  have hB0 : Hid (¬ 0 < sg (ratOf p.rt) → docB p = l1 ++ l2 ++ l3 ++ l4 ++ l5 ++ l6) := by
    show _ → _
    intro h; unfold docB; rw [if_neg h, hA.out]
  have hC1 : Hid (p.sec ≠ -1 → docB p ++ l8 = D) := by
    show _ → _
    intro h; rw [← HD.out]; unfold docC; rw [if_pos h, ← L8.out]; rfl
  have hC0 : Hid (¬ p.sec ≠ -1 → docB p = D) := by
    show _ → _
    intro h; rw [← HD.out]; unfold docC; rw [if_neg h]
  clear HD
  go_enter Tryz.func47, Tryz.ntmps47
  go_wp2_with fail
  obtain ⟨g, HG⟩ := name_it w.heap.size
  rw [HG.out] at b ⊢
  obtain ⟨w0, HW0⟩ := name_it (w.alloc (.cells #[.string p.id, .int .i64 p.es, .int .i64 p.cr, .string p.cd, .bool p.am.neg, .string p.am.num, .string p.am.den, .int .i64 p.inc, .int .i64 p.rk, .bool p.rt.neg, .string p.rt.num, .string p.rt.den, .int .i64 p.rf, .int .i64 p.sec] 27))
  rw [HW0.out] at b hch hgl ⊢
  have st : DSt w w0 g p := ⟨b, hch, hgl.out⟩
  clear b hch hgl
  have N6 := N5
  have I6 := I5
  replace st := st.keep0 (Chg.refl [] w0).drew
  have hcz := st.ch
  refine wp_region_held_drew (S := (fun w' => w'.cell? ⟨g, 0, none⟩ = some (.string p.id) ∧ w'.cell? ⟨g, 1, none⟩ = some (.int .i64 p.es) ∧ w'.cell? ⟨g, 2, none⟩ = some (.int .i64 p.cr) ∧ w'.cell? ⟨g, 3, none⟩ = some (.string p.cd) ∧ w'.cell? ⟨g, 4, none⟩ = some (.bool p.am.neg) ∧ w'.cell? ⟨g, 5, none⟩ = some (.string p.am.num) ∧ w'.cell? ⟨g, 6, none⟩ = some (.string p.am.den) ∧ w'.cell? ⟨g, 7, none⟩ = some (.int .i64 p.inc) ∧ w'.cell? ⟨g, 8, none⟩ = some (.int .i64 p.rk) ∧ w'.cell? ⟨g, 9, none⟩ = some (.bool p.rt.neg) ∧ w'.cell? ⟨g, 10, none⟩ = some (.string p.rt.num) ∧ w'.cell? ⟨g, 11, none⟩ = some (.string p.rt.den) ∧ w'.cell? ⟨g, 12, none⟩ = some (.int .i64 p.rf) ∧ w'.cell? ⟨g, 13, none⟩ = some (.int .i64 p.sec))) (by kernel_rfl) ?_ (fun hHeld => ?_)
  · exact ⟨st.c0, st.c1, st.c2, st.c3, st.c4, st.c5, st.c6, st.c7, st.c8, st.c9, st.c10, st.c11, st.c12, st.c13⟩
  obtain ⟨wz, HWz⟩ := name_it w0.drew
  rw [HWz.out] at st hcz hHeld ⊢
  refine wpAnyH_take (i := 0) (v := ?_) rfl (by kernel_rfl) (by kernel_rfl) (by kernel_rfl) (fun _ _ _ h => h) (Or.inl ⟨by rfl, ?_⟩) (by assumption) ?_
  rotate_left 1
  · intro w hSw
    try dsimp only at hSw
    go_simp
    try with_reducible rfl
  try simp only [List.getElem_toArray, List.getElem_cons_zero]
  try simp only [Act.put, List.setIfInBounds_toArray, List.set_cons_zero, List.set_cons_succ]
  refine wpAnyH_take (i := 4) (v := ?_) rfl (by kernel_rfl) (by kernel_rfl) (by kernel_rfl) (fun _ _ _ h => h) (Or.inl ⟨by rfl, ?_⟩) (by assumption) ?_
  rotate_left 1
  · intro w hSw
    try dsimp only at hSw
    go_simp
    try with_reducible rfl
  try simp only [List.getElem_toArray, List.getElem_cons_succ, List.getElem_cons_zero]
  try simp only [Act.put, List.setIfInBounds_toArray, List.set_cons_zero, List.set_cons_succ]
  refine wpAnyH_take (i := 10) (v := ?_) rfl (by kernel_rfl) (by kernel_rfl) (by kernel_rfl) (fun _ _ _ h => h) (Or.inl ⟨by rfl, ?_⟩) (by assumption) ?_
  rotate_left 1
  · intro w hSw
    try dsimp only at hSw
    go_simp
    try with_reducible rfl
  try simp only [List.getElem_toArray, List.getElem_cons_succ, List.getElem_cons_zero]
  try simp only [Act.put, List.setIfInBounds_toArray, List.set_cons_zero, List.set_cons_succ]
  refine wpAnyH_take (i := 16) (v := ?_) rfl (by kernel_rfl) (by kernel_rfl) (by kernel_rfl) (fun _ _ _ h => h) (Or.inl ⟨by rfl, ?_⟩) (by assumption) ?_
  rotate_left 1
  · intro w hSw
    try dsimp only at hSw
    go_simp
    try with_reducible rfl
  try simp only [List.getElem_toArray, List.getElem_cons_succ, List.getElem_cons_zero]
  try simp only [Act.put, List.setIfInBounds_toArray, List.set_cons_zero, List.set_cons_succ]
  refine wpAnyH_take (i := 18) (v := ?_) rfl (by kernel_rfl) (by kernel_rfl) (by kernel_rfl) (fun _ _ _ h => h) (Or.inl ⟨by rfl, ?_⟩) (by assumption) ?_
  rotate_left 1
  · intro w hSw
    try dsimp only at hSw
    go_simp
    try with_reducible rfl
  try simp only [List.getElem_toArray, List.getElem_cons_succ, List.getElem_cons_zero]
  try simp only [Act.put, List.setIfInBounds_toArray, List.set_cons_zero, List.set_cons_succ]
  refine wpAnyH_take (i := 24) (v := ?_) rfl (by kernel_rfl) (by kernel_rfl) (by kernel_rfl) (fun _ _ _ h => h) (Or.inl ⟨by rfl, ?_⟩) (by assumption) ?_
  rotate_left 1
  · intro w hSw
    try dsimp only at hSw
    go_simp
    try with_reducible rfl
  try simp only [List.getElem_toArray, List.getElem_cons_succ, List.getElem_cons_zero]
  try simp only [Act.put, List.setIfInBounds_toArray, List.set_cons_zero, List.set_cons_succ]
  refine wpAnyH_take (i := 30) (v := ?_) rfl (by kernel_rfl) (by kernel_rfl) (by kernel_rfl) (fun _ _ _ h => h) (Or.inl ⟨by rfl, ?_⟩) (by assumption) ?_
  rotate_left 1
  · intro w hSw
    try dsimp only at hSw
    go_simp
    try with_reducible rfl
  try simp only [List.getElem_toArray, List.getElem_cons_succ, List.getElem_cons_zero]
  try simp only [Act.put, List.setIfInBounds_toArray, List.set_cons_zero, List.set_cons_succ]
  refine wpAnyH_take (i := 1) (v := ?_) rfl (by kernel_rfl) (by kernel_rfl) (by kernel_rfl) (fun _ _ _ h => h) (Or.inl ⟨by rfl, ?_⟩) (by assumption) ?_
  rotate_left 1
  · intro w hSw
    try dsimp only at hSw
    go_simp
    try with_reducible rfl
  try simp only [List.getElem_toArray, List.getElem_cons_succ, List.getElem_cons_zero]
  try simp only [Act.put, List.setIfInBounds_toArray, List.set_cons_zero, List.set_cons_succ]
  refine wpAnyH_take (i := 5) (v := ?_) rfl (by kernel_rfl) (by kernel_rfl) (by kernel_rfl) (fun _ _ _ h => h) (Or.inl ⟨by rfl, ?_⟩) (by assumption) ?_
  rotate_left 1
  · intro w hSw
    try dsimp only at hSw
    go_simp
    try with_reducible rfl
  try simp only [List.getElem_toArray, List.getElem_cons_succ, List.getElem_cons_zero]
  try simp only [Act.put, List.setIfInBounds_toArray, List.set_cons_zero, List.set_cons_succ]
  refine wpAnyH_take (i := 11) (v := ?_) rfl (by kernel_rfl) (by kernel_rfl) (by kernel_rfl) (fun _ _ _ h => h) (Or.inl ⟨by rfl, ?_⟩) (by assumption) ?_
  rotate_left 1
  · intro w hSw
    try dsimp only at hSw
    go_simp
    try with_reducible rfl
  try simp only [List.getElem_toArray, List.getElem_cons_succ, List.getElem_cons_zero]
  try simp only [Act.put, List.setIfInBounds_toArray, List.set_cons_zero, List.set_cons_succ]
  refine wpAnyH_take (i := 17) (v := ?_) rfl (by kernel_rfl) (by kernel_rfl) (by kernel_rfl) (fun _ _ _ h => h) (Or.inl ⟨by rfl, ?_⟩) (by assumption) ?_
  rotate_left 1
  · intro w hSw
    try dsimp only at hSw
    go_simp
    try with_reducible rfl
  try simp only [List.getElem_toArray, List.getElem_cons_succ, List.getElem_cons_zero]
  try simp only [Act.put, List.setIfInBounds_toArray, List.set_cons_zero, List.set_cons_succ]
  refine wpAnyH_take (i := 19) (v := ?_) rfl (by kernel_rfl) (by kernel_rfl) (by kernel_rfl) (fun _ _ _ h => h) (Or.inl ⟨by rfl, ?_⟩) (by assumption) ?_
  rotate_left 1
  · intro w hSw
    try dsimp only at hSw
    go_simp
    try with_reducible rfl
  try simp only [List.getElem_toArray, List.getElem_cons_succ, List.getElem_cons_zero]
  try simp only [Act.put, List.setIfInBounds_toArray, List.set_cons_zero, List.set_cons_succ]
  refine wpAnyH_take (i := 25) (v := ?_) rfl (by kernel_rfl) (by kernel_rfl) (by kernel_rfl) (fun _ _ _ h => h) (Or.inl ⟨by rfl, ?_⟩) (by assumption) ?_
  rotate_left 1
  · intro w hSw
    try dsimp only at hSw
    go_simp
    try with_reducible rfl
  try simp only [List.getElem_toArray, List.getElem_cons_succ, List.getElem_cons_zero]
  try simp only [Act.put, List.setIfInBounds_toArray, List.set_cons_zero, List.set_cons_succ]
  refine wpAnyH_take (i := 31) (v := ?_) rfl (by kernel_rfl) (by kernel_rfl) (by kernel_rfl) (fun _ _ _ h => h) (Or.inl ⟨by rfl, ?_⟩) (by assumption) ?_
  rotate_left 1
  · intro w hSw
    try dsimp only at hSw
    go_simp
    try with_reducible rfl
  try simp only [List.getElem_toArray, List.getElem_cons_succ, List.getElem_cons_zero]
  try simp only [Act.put, List.setIfInBounds_toArray, List.set_cons_zero, List.set_cons_succ]
  refine wpAnyH_ready (rs := [2]) (by kernel_rfl) (by simp) ?_
  refine AllReadyH.cons (o := _) rfl (fun K' hK => ?_) AllReadyH.nil
  go_simp
  refine hK.out _ _ ?_ (fun hHeld => ?_)
  · exact ⟨(st.keep0 ((Chg.refl [] _).alloc _)).c0, (st.keep0 ((Chg.refl [] _).alloc _)).c1, (st.keep0 ((Chg.refl [] _).alloc _)).c2, (st.keep0 ((Chg.refl [] _).alloc _)).c3, (st.keep0 ((Chg.refl [] _).alloc _)).c4, (st.keep0 ((Chg.refl [] _).alloc _)).c5, (st.keep0 ((Chg.refl [] _).alloc _)).c6, (st.keep0 ((Chg.refl [] _).alloc _)).c7, (st.keep0 ((Chg.refl [] _).alloc _)).c8, (st.keep0 ((Chg.refl [] _).alloc _)).c9, (st.keep0 ((Chg.refl [] _).alloc _)).c10, (st.keep0 ((Chg.refl [] _).alloc _)).c11, (st.keep0 ((Chg.refl [] _).alloc _)).c12, (st.keep0 ((Chg.refl [] _).alloc _)).c13⟩
  clear hK K'
  try simp only [Act.put, List.setIfInBounds_toArray, List.set_cons_zero, List.set_cons_succ]
  have hx := LW2 wz ⟨#[112, 114, 111, 111, 102]⟩ p.id 9 (show _ ≤ _ by decide) Z1.out
  have c9 : Chg [] wz (wz.alloc (.cells #[.string ⟨#[112, 114, 111, 111, 102]⟩, .string p.id] 9)) := (Chg.refl _ _).alloc _
  replace st := st.keep0 c9
  replace hcz := hcz.then c9
  clear c9
  obtain ⟨wq2, HWwq2⟩ := name_it (wz.alloc (.cells #[.string ⟨#[112, 114, 111, 111, 102]⟩, .string p.id] 9))
  obtain ⟨gq1, HGgq1⟩ := name_it wz.heap.size
  rw [HWwq2.out] at st hx hcz hHeld ⊢
  rw [HGgq1.out] at hx ⊢
  refine wpAnyH_ready (rs := [3]) (by kernel_rfl) (by simp) ?_
  refine AllReadyH.cons (o := _) rfl (fun K' hK => ?_) AllReadyH.nil
  go_simp
  refine (lineOf_any _ _ _ _ _ hx (by rfl) (by omega)).mono ?_
  rintro e9 wl3 ⟨rfl, c6⟩
  rw [L1.out]
  replace st := st.keep0 c6
  replace hx := hx.keep0 c6
  replace hcz := hcz.then c6
  clear c6
  go_wp2_with fail
  refine hK.out _ _ ?_ (fun hHeld => ?_)
  · exact ⟨st.c0, st.c1, st.c2, st.c3, st.c4, st.c5, st.c6, st.c7, st.c8, st.c9, st.c10, st.c11, st.c12, st.c13⟩
  clear hK K'
  try simp only [Act.put, List.setIfInBounds_toArray, List.set_cons_zero, List.set_cons_succ]
  clear hx
  refine wpAnyH_ready (rs := [6]) (by kernel_rfl) (by simp) ?_
  refine AllReadyH.cons (o := _) rfl (fun K' hK => ?_) AllReadyH.nil
  go_simp
  refine (itoa_any p.es N1.out.1 N1.out.2 _ st.gl).mono ?_
  rintro e9 wl4 ⟨rfl, c6⟩
  replace st := st.keep0 c6
  replace hcz := hcz.then c6
  clear c6
  go_wp2_with fail
  refine hK.out _ _ ?_ (fun hHeld => ?_)
  · exact ⟨st.c0, st.c1, st.c2, st.c3, st.c4, st.c5, st.c6, st.c7, st.c8, st.c9, st.c10, st.c11, st.c12, st.c13⟩
  clear hK K'
  try simp only [Act.put, List.setIfInBounds_toArray, List.set_cons_zero, List.set_cons_succ]
  refine wpAnyH_ready (rs := [7]) (by kernel_rfl) (by simp) ?_
  refine AllReadyH.cons (o := _) rfl (fun K' hK => ?_) AllReadyH.nil
  go_simp
  refine hK.out _ _ ?_ (fun hHeld => ?_)
  · exact ⟨(st.keep0 ((Chg.refl [] _).alloc _)).c0, (st.keep0 ((Chg.refl [] _).alloc _)).c1, (st.keep0 ((Chg.refl [] _).alloc _)).c2, (st.keep0 ((Chg.refl [] _).alloc _)).c3, (st.keep0 ((Chg.refl [] _).alloc _)).c4, (st.keep0 ((Chg.refl [] _).alloc _)).c5, (st.keep0 ((Chg.refl [] _).alloc _)).c6, (st.keep0 ((Chg.refl [] _).alloc _)).c7, (st.keep0 ((Chg.refl [] _).alloc _)).c8, (st.keep0 ((Chg.refl [] _).alloc _)).c9, (st.keep0 ((Chg.refl [] _).alloc _)).c10, (st.keep0 ((Chg.refl [] _).alloc _)).c11, (st.keep0 ((Chg.refl [] _).alloc _)).c12, (st.keep0 ((Chg.refl [] _).alloc _)).c13⟩
  clear hK K'
  try simp only [Act.put, List.setIfInBounds_toArray, List.set_cons_zero, List.set_cons_succ]
  have hx := LW2 wl4 ⟨#[101, 115, 116, 97, 116, 101]⟩ (itB p.es) 9 (show _ ≤ _ by decide) I1.out
  have c9 : Chg [] wl4 (wl4.alloc (.cells #[.string ⟨#[101, 115, 116, 97, 116, 101]⟩, .string (itB p.es)] 9)) := (Chg.refl _ _).alloc _
  replace st := st.keep0 c9
  replace hcz := hcz.then c9
  clear c9
  obtain ⟨wq6, HWwq6⟩ := name_it (wl4.alloc (.cells #[.string ⟨#[101, 115, 116, 97, 116, 101]⟩, .string (itB p.es)] 9))
  obtain ⟨gq5, HGgq5⟩ := name_it wl4.heap.size
  rw [HWwq6.out] at st hx hcz hHeld ⊢
  rw [HGgq5.out] at hx ⊢
  refine wpAnyH_ready (rs := [8]) (by kernel_rfl) (by simp) ?_
  refine AllReadyH.cons (o := _) rfl (fun K' hK => ?_) AllReadyH.nil
  go_simp
  refine (lineOf_any _ _ _ _ _ hx (by rfl) (by omega)).mono ?_
  rintro e9 wl7 ⟨rfl, c6⟩
  rw [L2.out]
  replace st := st.keep0 c6
  replace hx := hx.keep0 c6
  replace hcz := hcz.then c6
  clear c6
  go_wp2_with fail
  refine hK.out _ _ ?_ (fun hHeld => ?_)
  · exact ⟨st.c0, st.c1, st.c2, st.c3, st.c4, st.c5, st.c6, st.c7, st.c8, st.c9, st.c10, st.c11, st.c12, st.c13⟩
  clear hK K'
  try simp only [Act.put, List.setIfInBounds_toArray, List.set_cons_zero, List.set_cons_succ]
  clear hx
  refine wpAnyH_take (i := 9) (v := ?_) rfl (by kernel_rfl) (by kernel_rfl) (by kernel_rfl) (fun _ _ _ h => h) (Or.inl ⟨by rfl, ?_⟩) (by assumption) ?_
  rotate_left 1
  · intro w hSw
    try dsimp only at hSw
    go_simp
    rw [if_neg (by (try simp only [ByteArray.size_append]); omega)]
    try with_reducible rfl
  try simp only [List.getElem_toArray, List.getElem_cons_succ, List.getElem_cons_zero]
  try simp only [Act.put, List.setIfInBounds_toArray, List.set_cons_zero, List.set_cons_succ]
  refine wpAnyH_ready (rs := [12]) (by kernel_rfl) (by simp) ?_
  refine AllReadyH.cons (o := _) rfl (fun K' hK => ?_) AllReadyH.nil
  go_simp
  refine (itoa_any p.cr N2.out.1 N2.out.2 _ st.gl).mono ?_
  rintro e9 wl8 ⟨rfl, c6⟩
  replace st := st.keep0 c6
  replace hcz := hcz.then c6
  clear c6
  go_wp2_with fail
  refine hK.out _ _ ?_ (fun hHeld => ?_)
  · exact ⟨st.c0, st.c1, st.c2, st.c3, st.c4, st.c5, st.c6, st.c7, st.c8, st.c9, st.c10, st.c11, st.c12, st.c13⟩
  clear hK K'
  try simp only [Act.put, List.setIfInBounds_toArray, List.set_cons_zero, List.set_cons_succ]
  refine wpAnyH_ready (rs := [13]) (by kernel_rfl) (by simp) ?_
  refine AllReadyH.cons (o := _) rfl (fun K' hK => ?_) AllReadyH.nil
  go_simp
  refine hK.out _ _ ?_ (fun hHeld => ?_)
  · exact ⟨(st.keep0 ((Chg.refl [] _).alloc _)).c0, (st.keep0 ((Chg.refl [] _).alloc _)).c1, (st.keep0 ((Chg.refl [] _).alloc _)).c2, (st.keep0 ((Chg.refl [] _).alloc _)).c3, (st.keep0 ((Chg.refl [] _).alloc _)).c4, (st.keep0 ((Chg.refl [] _).alloc _)).c5, (st.keep0 ((Chg.refl [] _).alloc _)).c6, (st.keep0 ((Chg.refl [] _).alloc _)).c7, (st.keep0 ((Chg.refl [] _).alloc _)).c8, (st.keep0 ((Chg.refl [] _).alloc _)).c9, (st.keep0 ((Chg.refl [] _).alloc _)).c10, (st.keep0 ((Chg.refl [] _).alloc _)).c11, (st.keep0 ((Chg.refl [] _).alloc _)).c12, (st.keep0 ((Chg.refl [] _).alloc _)).c13⟩
  clear hK K'
  try simp only [Act.put, List.setIfInBounds_toArray, List.set_cons_zero, List.set_cons_succ]
  have hx := LW2 wl8 ⟨#[99, 114, 101, 100, 105, 116, 111, 114]⟩ (itB p.cr) 9 (show _ ≤ _ by decide) I2.out
  have c9 : Chg [] wl8 (wl8.alloc (.cells #[.string ⟨#[99, 114, 101, 100, 105, 116, 111, 114]⟩, .string (itB p.cr)] 9)) := (Chg.refl _ _).alloc _
  replace st := st.keep0 c9
  replace hcz := hcz.then c9
  clear c9
  obtain ⟨wq10, HWwq10⟩ := name_it (wl8.alloc (.cells #[.string ⟨#[99, 114, 101, 100, 105, 116, 111, 114]⟩, .string (itB p.cr)] 9))
  obtain ⟨gq9, HGgq9⟩ := name_it wl8.heap.size
  rw [HWwq10.out] at st hx hcz hHeld ⊢
  rw [HGgq9.out] at hx ⊢
  refine wpAnyH_ready (rs := [14]) (by kernel_rfl) (by simp) ?_
  refine AllReadyH.cons (o := _) rfl (fun K' hK => ?_) AllReadyH.nil
  go_simp
  refine (lineOf_any _ _ _ _ _ hx (by rfl) (by omega)).mono ?_
  rintro e9 wl11 ⟨rfl, c6⟩
  rw [L3.out]
  replace st := st.keep0 c6
  replace hx := hx.keep0 c6
  replace hcz := hcz.then c6
  clear c6
  go_wp2_with fail
  refine hK.out _ _ ?_ (fun hHeld => ?_)
  · exact ⟨st.c0, st.c1, st.c2, st.c3, st.c4, st.c5, st.c6, st.c7, st.c8, st.c9, st.c10, st.c11, st.c12, st.c13⟩
  clear hK K'
  try simp only [Act.put, List.setIfInBounds_toArray, List.set_cons_zero, List.set_cons_succ]
  clear hx
  refine wpAnyH_take (i := 15) (v := ?_) rfl (by kernel_rfl) (by kernel_rfl) (by kernel_rfl) (fun _ _ _ h => h) (Or.inl ⟨by rfl, ?_⟩) (by assumption) ?_
  rotate_left 1
  · intro w hSw
    try dsimp only at hSw
    go_simp
    rw [if_neg (by (try simp only [ByteArray.size_append]); omega)]
    try with_reducible rfl
  try simp only [List.getElem_toArray, List.getElem_cons_succ, List.getElem_cons_zero]
  try simp only [Act.put, List.setIfInBounds_toArray, List.set_cons_zero, List.set_cons_succ]
  refine wpAnyH_ready (rs := [20]) (by kernel_rfl) (by simp) ?_
  refine AllReadyH.cons (o := _) rfl (fun K' hK => ?_) AllReadyH.nil
  go_simp
  refine (fmt_any p.am _ HF.out.a).mono ?_
  rintro e9 wl12 ⟨rfl, c6⟩
  replace st := st.keep0 c6
  replace hcz := hcz.then c6
  clear c6
  go_wp2_with fail
  refine hK.out _ _ ?_ (fun hHeld => ?_)
  · exact ⟨st.c0, st.c1, st.c2, st.c3, st.c4, st.c5, st.c6, st.c7, st.c8, st.c9, st.c10, st.c11, st.c12, st.c13⟩
  clear hK K'
  try simp only [Act.put, List.setIfInBounds_toArray, List.set_cons_zero, List.set_cons_succ]
  refine wpAnyH_ready (rs := [21]) (by kernel_rfl) (by simp) ?_
  refine AllReadyH.cons (o := _) rfl (fun K' hK => ?_) AllReadyH.nil
  go_simp
  refine hK.out _ _ ?_ (fun hHeld => ?_)
  · exact ⟨(st.keep0 ((Chg.refl [] _).alloc _)).c0, (st.keep0 ((Chg.refl [] _).alloc _)).c1, (st.keep0 ((Chg.refl [] _).alloc _)).c2, (st.keep0 ((Chg.refl [] _).alloc _)).c3, (st.keep0 ((Chg.refl [] _).alloc _)).c4, (st.keep0 ((Chg.refl [] _).alloc _)).c5, (st.keep0 ((Chg.refl [] _).alloc _)).c6, (st.keep0 ((Chg.refl [] _).alloc _)).c7, (st.keep0 ((Chg.refl [] _).alloc _)).c8, (st.keep0 ((Chg.refl [] _).alloc _)).c9, (st.keep0 ((Chg.refl [] _).alloc _)).c10, (st.keep0 ((Chg.refl [] _).alloc _)).c11, (st.keep0 ((Chg.refl [] _).alloc _)).c12, (st.keep0 ((Chg.refl [] _).alloc _)).c13⟩
  clear hK K'
  try simp only [Act.put, List.setIfInBounds_toArray, List.set_cons_zero, List.set_cons_succ]
  have hx := LW3 wl12 ⟨#[97, 109, 111, 117, 110, 116]⟩ p.cd (fmB (ratOf p.am)) 9 (show _ ≤ _ by decide) Z2.out Z3.out
  have c9 : Chg [] wl12 (wl12.alloc (.cells #[.string ⟨#[97, 109, 111, 117, 110, 116]⟩, .string p.cd, .string (fmB (ratOf p.am))] 9)) := (Chg.refl _ _).alloc _
  replace st := st.keep0 c9
  replace hcz := hcz.then c9
  clear c9
  obtain ⟨wq14, HWwq14⟩ := name_it (wl12.alloc (.cells #[.string ⟨#[97, 109, 111, 117, 110, 116]⟩, .string p.cd, .string (fmB (ratOf p.am))] 9))
  obtain ⟨gq13, HGgq13⟩ := name_it wl12.heap.size
  rw [HWwq14.out] at st hx hcz hHeld ⊢
  rw [HGgq13.out] at hx ⊢
  refine wpAnyH_ready (rs := [22]) (by kernel_rfl) (by simp) ?_
  refine AllReadyH.cons (o := _) rfl (fun K' hK => ?_) AllReadyH.nil
  go_simp
  refine (lineOf_any _ _ _ _ _ hx (by rfl) (by omega)).mono ?_
  rintro e9 wl15 ⟨rfl, c6⟩
  rw [L4.out]
  replace st := st.keep0 c6
  replace hx := hx.keep0 c6
  replace hcz := hcz.then c6
  clear c6
  go_wp2_with fail
  refine hK.out _ _ ?_ (fun hHeld => ?_)
  · exact ⟨st.c0, st.c1, st.c2, st.c3, st.c4, st.c5, st.c6, st.c7, st.c8, st.c9, st.c10, st.c11, st.c12, st.c13⟩
  clear hK K'
  try simp only [Act.put, List.setIfInBounds_toArray, List.set_cons_zero, List.set_cons_succ]
  clear hx
  refine wpAnyH_take (i := 23) (v := ?_) rfl (by kernel_rfl) (by kernel_rfl) (by kernel_rfl) (fun _ _ _ h => h) (Or.inl ⟨by rfl, ?_⟩) (by assumption) ?_
  rotate_left 1
  · intro w hSw
    try dsimp only at hSw
    go_simp
    rw [if_neg (by (try simp only [ByteArray.size_append]); omega)]
    try with_reducible rfl
  try simp only [List.getElem_toArray, List.getElem_cons_succ, List.getElem_cons_zero]
  try simp only [Act.put, List.setIfInBounds_toArray, List.set_cons_zero, List.set_cons_succ]
  refine wpAnyH_ready (rs := [26]) (by kernel_rfl) (by simp) ?_
  refine AllReadyH.cons (o := _) rfl (fun K' hK => ?_) AllReadyH.nil
  go_simp
  refine (itoa_any p.inc N3.out.1 N3.out.2 _ st.gl).mono ?_
  rintro e9 wl16 ⟨rfl, c6⟩
  replace st := st.keep0 c6
  replace hcz := hcz.then c6
  clear c6
  go_wp2_with fail
  refine hK.out _ _ ?_ (fun hHeld => ?_)
  · exact ⟨st.c0, st.c1, st.c2, st.c3, st.c4, st.c5, st.c6, st.c7, st.c8, st.c9, st.c10, st.c11, st.c12, st.c13⟩
  clear hK K'
  try simp only [Act.put, List.setIfInBounds_toArray, List.set_cons_zero, List.set_cons_succ]
  refine wpAnyH_ready (rs := [27]) (by kernel_rfl) (by simp) ?_
  refine AllReadyH.cons (o := _) rfl (fun K' hK => ?_) AllReadyH.nil
  go_simp
  refine hK.out _ _ ?_ (fun hHeld => ?_)
  · exact ⟨(st.keep0 ((Chg.refl [] _).alloc _)).c0, (st.keep0 ((Chg.refl [] _).alloc _)).c1, (st.keep0 ((Chg.refl [] _).alloc _)).c2, (st.keep0 ((Chg.refl [] _).alloc _)).c3, (st.keep0 ((Chg.refl [] _).alloc _)).c4, (st.keep0 ((Chg.refl [] _).alloc _)).c5, (st.keep0 ((Chg.refl [] _).alloc _)).c6, (st.keep0 ((Chg.refl [] _).alloc _)).c7, (st.keep0 ((Chg.refl [] _).alloc _)).c8, (st.keep0 ((Chg.refl [] _).alloc _)).c9, (st.keep0 ((Chg.refl [] _).alloc _)).c10, (st.keep0 ((Chg.refl [] _).alloc _)).c11, (st.keep0 ((Chg.refl [] _).alloc _)).c12, (st.keep0 ((Chg.refl [] _).alloc _)).c13⟩
  clear hK K'
  try simp only [Act.put, List.setIfInBounds_toArray, List.set_cons_zero, List.set_cons_succ]
  have hx := LW2 wl16 ⟨#[105, 110, 99, 117, 114, 114, 101, 100]⟩ (itB p.inc) 9 (show _ ≤ _ by decide) I3.out
  have c9 : Chg [] wl16 (wl16.alloc (.cells #[.string ⟨#[105, 110, 99, 117, 114, 114, 101, 100]⟩, .string (itB p.inc)] 9)) := (Chg.refl _ _).alloc _
  replace st := st.keep0 c9
  replace hcz := hcz.then c9
  clear c9
  obtain ⟨wq18, HWwq18⟩ := name_it (wl16.alloc (.cells #[.string ⟨#[105, 110, 99, 117, 114, 114, 101, 100]⟩, .string (itB p.inc)] 9))
  obtain ⟨gq17, HGgq17⟩ := name_it wl16.heap.size
  rw [HWwq18.out] at st hx hcz hHeld ⊢
  rw [HGgq17.out] at hx ⊢
  refine wpAnyH_ready (rs := [28]) (by kernel_rfl) (by simp) ?_
  refine AllReadyH.cons (o := _) rfl (fun K' hK => ?_) AllReadyH.nil
  go_simp
  refine (lineOf_any _ _ _ _ _ hx (by rfl) (by omega)).mono ?_
  rintro e9 wl19 ⟨rfl, c6⟩
  rw [L5.out]
  replace st := st.keep0 c6
  replace hx := hx.keep0 c6
  replace hcz := hcz.then c6
  clear c6
  go_wp2_with fail
  refine hK.out _ _ ?_ (fun hHeld => ?_)
  · exact ⟨st.c0, st.c1, st.c2, st.c3, st.c4, st.c5, st.c6, st.c7, st.c8, st.c9, st.c10, st.c11, st.c12, st.c13⟩
  clear hK K'
  try simp only [Act.put, List.setIfInBounds_toArray, List.set_cons_zero, List.set_cons_succ]
  clear hx
  refine wpAnyH_take (i := 29) (v := ?_) rfl (by kernel_rfl) (by kernel_rfl) (by kernel_rfl) (fun _ _ _ h => h) (Or.inl ⟨by rfl, ?_⟩) (by assumption) ?_
  rotate_left 1
  · intro w hSw
    try dsimp only at hSw
    go_simp
    rw [if_neg (by (try simp only [ByteArray.size_append]); omega)]
    try with_reducible rfl
  try simp only [List.getElem_toArray, List.getElem_cons_succ, List.getElem_cons_zero]
  try simp only [Act.put, List.setIfInBounds_toArray, List.set_cons_zero, List.set_cons_succ]
  refine wpAnyH_ready (rs := [32]) (by kernel_rfl) (by simp) ?_
  refine AllReadyH.cons (o := _) rfl (fun K' hK => ?_) AllReadyH.nil
  go_simp
  refine (itoa_any p.rk N4.out.1 N4.out.2 _ st.gl).mono ?_
  rintro e9 wl20 ⟨rfl, c6⟩
  replace st := st.keep0 c6
  replace hcz := hcz.then c6
  clear c6
  go_wp2_with fail
  refine hK.out _ _ ?_ (fun hHeld => ?_)
  · exact ⟨st.c0, st.c1, st.c2, st.c3, st.c4, st.c5, st.c6, st.c7, st.c8, st.c9, st.c10, st.c11, st.c12, st.c13⟩
  clear hK K'
  try simp only [Act.put, List.setIfInBounds_toArray, List.set_cons_zero, List.set_cons_succ]
  refine wpAnyH_ready (rs := [33]) (by kernel_rfl) (by simp) ?_
  refine AllReadyH.cons (o := _) rfl (fun K' hK => ?_) AllReadyH.nil
  go_simp
  refine hK.out _ _ ?_ (fun hHeld => ?_)
  · exact ⟨(st.keep0 ((Chg.refl [] _).alloc _)).c0, (st.keep0 ((Chg.refl [] _).alloc _)).c1, (st.keep0 ((Chg.refl [] _).alloc _)).c2, (st.keep0 ((Chg.refl [] _).alloc _)).c3, (st.keep0 ((Chg.refl [] _).alloc _)).c4, (st.keep0 ((Chg.refl [] _).alloc _)).c5, (st.keep0 ((Chg.refl [] _).alloc _)).c6, (st.keep0 ((Chg.refl [] _).alloc _)).c7, (st.keep0 ((Chg.refl [] _).alloc _)).c8, (st.keep0 ((Chg.refl [] _).alloc _)).c9, (st.keep0 ((Chg.refl [] _).alloc _)).c10, (st.keep0 ((Chg.refl [] _).alloc _)).c11, (st.keep0 ((Chg.refl [] _).alloc _)).c12, (st.keep0 ((Chg.refl [] _).alloc _)).c13⟩
  clear hK K'
  try simp only [Act.put, List.setIfInBounds_toArray, List.set_cons_zero, List.set_cons_succ]
  have hx := LW2 wl20 ⟨#[114, 97, 110, 107]⟩ (itB p.rk) 9 (show _ ≤ _ by decide) I4.out
  have c9 : Chg [] wl20 (wl20.alloc (.cells #[.string ⟨#[114, 97, 110, 107]⟩, .string (itB p.rk)] 9)) := (Chg.refl _ _).alloc _
  replace st := st.keep0 c9
  replace hcz := hcz.then c9
  clear c9
  obtain ⟨wq22, HWwq22⟩ := name_it (wl20.alloc (.cells #[.string ⟨#[114, 97, 110, 107]⟩, .string (itB p.rk)] 9))
  obtain ⟨gq21, HGgq21⟩ := name_it wl20.heap.size
  rw [HWwq22.out] at st hx hcz hHeld ⊢
  rw [HGgq21.out] at hx ⊢
  refine wpAnyH_ready (rs := [34]) (by kernel_rfl) (by simp) ?_
  refine AllReadyH.cons (o := _) rfl (fun K' hK => ?_) AllReadyH.nil
  go_simp
  refine (lineOf_any _ _ _ _ _ hx (by rfl) (by omega)).mono ?_
  rintro e9 wl23 ⟨rfl, c6⟩
  rw [L6.out]
  replace st := st.keep0 c6
  replace hx := hx.keep0 c6
  replace hcz := hcz.then c6
  clear c6
  go_wp2_with fail
  refine hK.out _ _ ?_ (fun hHeld => ?_)
  · exact ⟨st.c0, st.c1, st.c2, st.c3, st.c4, st.c5, st.c6, st.c7, st.c8, st.c9, st.c10, st.c11, st.c12, st.c13⟩
  clear hK K'
  try simp only [Act.put, List.setIfInBounds_toArray, List.set_cons_zero, List.set_cons_succ]
  clear hx
  refine wpAnyH_take (i := 35) (v := ?_) rfl (by kernel_rfl) (by kernel_rfl) (by kernel_rfl) (fun _ _ _ h => h) (Or.inl ⟨by rfl, ?_⟩) (by assumption) ?_
  rotate_left 1
  · intro w hSw
    try dsimp only at hSw
    go_simp
    rw [if_neg (by (try simp only [ByteArray.size_append]); omega)]
    try with_reducible rfl
  try simp only [List.getElem_toArray, List.getElem_cons_succ, List.getElem_cons_zero]
  try simp only [Act.put, List.setIfInBounds_toArray, List.set_cons_zero, List.set_cons_succ]
  refine wpAnyH_take (i := 36) (v := ?_) rfl (by kernel_rfl) (by kernel_rfl) (by kernel_rfl) (fun _ _ _ h => h) (Or.inl ⟨by rfl, ?_⟩) (by assumption) ?_
  rotate_left 1
  · intro w hSw
    try dsimp only at hSw
    go_simp
    try with_reducible rfl
  try simp only [List.getElem_toArray, List.getElem_cons_succ, List.getElem_cons_zero]
  try simp only [Act.put, List.setIfInBounds_toArray, List.set_cons_zero, List.set_cons_succ]
  refine wpAnyH_done (by kernel_rfl) ?_ _
  go_wp2_with fail
  obtain ⟨X, HXX⟩ := name_it (l1 ++ l2 ++ l3 ++ l4 ++ l5 ++ l6)
  have zX : X.size ≤ 600000 := by rw [← HXX.out]; simp only [ByteArray.size_append]; omega
  rw [HXX.out] at hB1 hB0 ⊢
  clear z1 z2 z3 z4 z5 z6 L1 L2 L3 L4 L5 L6 HXX hA
  have NR := Lib.hid (Num.of_fits HF.out.r (by omega))
  refine (SignN p.rt (ratOf p.rt) 4000 _ NR.out (by omega)).mono ?_
  rintro e wS ⟨rfl, cS⟩
  replace st := st.keep0 cS
  clear cS hcz
  obtain ⟨SG, HSG⟩ := name_it (sg (ratOf p.rt))
  rw [HSG.out] at hB1 hB0 ⊢
  by_cases h2 : p.sec = -1
  · have d2 : (p.sec != -1) = false := by simpa using h2
    have hD := Lib.hid (hC0.out (by simp [h2]))
    clear h2 hC0 hC1
    by_cases h1 : 0 < SG
    · have hB := Lib.hid (hB1.out h1)
      have d1 : decide (0 < SG) = true := decide_eq_true h1
      clear h1 hB1 hB0
      go_wp2_with fail
      replace st := st.keep0 (Chg.refl [] wS).drew
      have hcz := st.ch
      refine wp_region_held_drew (S := (fun w' => w'.cell? ⟨g, 0, none⟩ = some (.string p.id) ∧ w'.cell? ⟨g, 1, none⟩ = some (.int .i64 p.es) ∧ w'.cell? ⟨g, 2, none⟩ = some (.int .i64 p.cr) ∧ w'.cell? ⟨g, 3, none⟩ = some (.string p.cd) ∧ w'.cell? ⟨g, 4, none⟩ = some (.bool p.am.neg) ∧ w'.cell? ⟨g, 5, none⟩ = some (.string p.am.num) ∧ w'.cell? ⟨g, 6, none⟩ = some (.string p.am.den) ∧ w'.cell? ⟨g, 7, none⟩ = some (.int .i64 p.inc) ∧ w'.cell? ⟨g, 8, none⟩ = some (.int .i64 p.rk) ∧ w'.cell? ⟨g, 9, none⟩ = some (.bool p.rt.neg) ∧ w'.cell? ⟨g, 10, none⟩ = some (.string p.rt.num) ∧ w'.cell? ⟨g, 11, none⟩ = some (.string p.rt.den) ∧ w'.cell? ⟨g, 12, none⟩ = some (.int .i64 p.rf) ∧ w'.cell? ⟨g, 13, none⟩ = some (.int .i64 p.sec))) (by kernel_rfl) ?_ (fun hHeld => ?_)
      · exact ⟨st.c0, st.c1, st.c2, st.c3, st.c4, st.c5, st.c6, st.c7, st.c8, st.c9, st.c10, st.c11, st.c12, st.c13⟩
      obtain ⟨wz, HWz⟩ := name_it wS.drew
      rw [HWz.out] at st hcz hHeld ⊢
      refine wpAnyH_take (i := 0) (v := ?_) rfl (by kernel_rfl) (by kernel_rfl) (by kernel_rfl) (fun _ _ _ h => h) (Or.inl ⟨by rfl, ?_⟩) (by assumption) ?_
      rotate_left 1
      · intro w hSw
        try dsimp only at hSw
        go_simp
        try with_reducible rfl
      try simp only [List.getElem_toArray, List.getElem_cons_zero]
      try simp only [Act.put, List.setIfInBounds_toArray, List.set_cons_zero, List.set_cons_succ]
      refine wpAnyH_take (i := 1) (v := ?_) rfl (by kernel_rfl) (by kernel_rfl) (by kernel_rfl) (fun _ _ _ h => h) (Or.inl ⟨by rfl, ?_⟩) (by assumption) ?_
      rotate_left 1
      · intro w hSw
        try dsimp only at hSw
        go_simp
        try with_reducible rfl
      try simp only [List.getElem_toArray, List.getElem_cons_succ, List.getElem_cons_zero]
      try simp only [Act.put, List.setIfInBounds_toArray, List.set_cons_zero, List.set_cons_succ]
      refine wpAnyH_take (i := 4) (v := ?_) rfl (by kernel_rfl) (by kernel_rfl) (by kernel_rfl) (fun _ _ _ h => h) (Or.inl ⟨by rfl, ?_⟩) (by assumption) ?_
      rotate_left 1
      · intro w hSw
        try dsimp only at hSw
        go_simp
        try with_reducible rfl
      try simp only [List.getElem_toArray, List.getElem_cons_succ, List.getElem_cons_zero]
      try simp only [Act.put, List.setIfInBounds_toArray, List.set_cons_zero, List.set_cons_succ]
      refine wpAnyH_take (i := 2) (v := ?_) rfl (by kernel_rfl) (by kernel_rfl) (by kernel_rfl) (fun _ _ _ h => h) (Or.inl ⟨by rfl, ?_⟩) (by assumption) ?_
      rotate_left 1
      · intro w hSw
        try dsimp only at hSw
        go_simp
        try with_reducible rfl
      try simp only [List.getElem_toArray, List.getElem_cons_succ, List.getElem_cons_zero]
      try simp only [Act.put, List.setIfInBounds_toArray, List.set_cons_zero, List.set_cons_succ]
      refine wpAnyH_take (i := 5) (v := ?_) rfl (by kernel_rfl) (by kernel_rfl) (by kernel_rfl) (fun _ _ _ h => h) (Or.inl ⟨by rfl, ?_⟩) (by assumption) ?_
      rotate_left 1
      · intro w hSw
        try dsimp only at hSw
        go_simp
        try with_reducible rfl
      try simp only [List.getElem_toArray, List.getElem_cons_succ, List.getElem_cons_zero]
      try simp only [Act.put, List.setIfInBounds_toArray, List.set_cons_zero, List.set_cons_succ]
      refine wpAnyH_ready (rs := [3]) (by kernel_rfl) (by simp) ?_
      refine AllReadyH.cons (o := _) rfl (fun K' hK => ?_) AllReadyH.nil
      go_simp
      refine (fmt_any p.rt _ HF.out.r).mono ?_
      rintro e9 wl1 ⟨rfl, c6⟩
      replace st := st.keep0 c6
      replace hcz := hcz.then c6
      clear c6
      go_wp2_with fail
      refine hK.out _ _ ?_ (fun hHeld => ?_)
      · exact ⟨st.c0, st.c1, st.c2, st.c3, st.c4, st.c5, st.c6, st.c7, st.c8, st.c9, st.c10, st.c11, st.c12, st.c13⟩
      clear hK K'
      try simp only [Act.put, List.setIfInBounds_toArray, List.set_cons_zero, List.set_cons_succ]
      refine wpAnyH_ready (rs := [6]) (by kernel_rfl) (by simp) ?_
      refine AllReadyH.cons (o := _) rfl (fun K' hK => ?_) AllReadyH.nil
      go_simp
      refine (itoa_any p.rf N5.out.1 N5.out.2 _ st.gl).mono ?_
      rintro e9 wl2 ⟨rfl, c6⟩
      replace st := st.keep0 c6
      replace hcz := hcz.then c6
      clear c6
      go_wp2_with fail
      refine hK.out _ _ ?_ (fun hHeld => ?_)
      · exact ⟨st.c0, st.c1, st.c2, st.c3, st.c4, st.c5, st.c6, st.c7, st.c8, st.c9, st.c10, st.c11, st.c12, st.c13⟩
      clear hK K'
      try simp only [Act.put, List.setIfInBounds_toArray, List.set_cons_zero, List.set_cons_succ]
      refine wpAnyH_ready (rs := [7]) (by kernel_rfl) (by simp) ?_
      refine AllReadyH.cons (o := _) rfl (fun K' hK => ?_) AllReadyH.nil
      go_simp
      refine hK.out _ _ ?_ (fun hHeld => ?_)
      · exact ⟨(st.keep0 ((Chg.refl [] _).alloc _)).c0, (st.keep0 ((Chg.refl [] _).alloc _)).c1, (st.keep0 ((Chg.refl [] _).alloc _)).c2, (st.keep0 ((Chg.refl [] _).alloc _)).c3, (st.keep0 ((Chg.refl [] _).alloc _)).c4, (st.keep0 ((Chg.refl [] _).alloc _)).c5, (st.keep0 ((Chg.refl [] _).alloc _)).c6, (st.keep0 ((Chg.refl [] _).alloc _)).c7, (st.keep0 ((Chg.refl [] _).alloc _)).c8, (st.keep0 ((Chg.refl [] _).alloc _)).c9, (st.keep0 ((Chg.refl [] _).alloc _)).c10, (st.keep0 ((Chg.refl [] _).alloc _)).c11, (st.keep0 ((Chg.refl [] _).alloc _)).c12, (st.keep0 ((Chg.refl [] _).alloc _)).c13⟩
      clear hK K'
      try simp only [Act.put, List.setIfInBounds_toArray, List.set_cons_zero, List.set_cons_succ]
      have hx := LW4 wl2 ⟨#[105, 110, 116, 101, 114, 101, 115, 116]⟩ (fmB (ratOf p.rt)) ⟨#[102, 114, 111, 109]⟩ (itB p.rf) 9 (show _ ≤ _ by decide) Z4.out (show _ ≤ _ by decide) I5.out
      have c9 : Chg [] wl2 (wl2.alloc (.cells #[.string ⟨#[105, 110, 116, 101, 114, 101, 115, 116]⟩, .string (fmB (ratOf p.rt)), .string ⟨#[102, 114, 111, 109]⟩, .string (itB p.rf)] 9)) := (Chg.refl _ _).alloc _
      replace st := st.keep0 c9
      replace hcz := hcz.then c9
      clear c9
      obtain ⟨wq4, HWwq4⟩ := name_it (wl2.alloc (.cells #[.string ⟨#[105, 110, 116, 101, 114, 101, 115, 116]⟩, .string (fmB (ratOf p.rt)), .string ⟨#[102, 114, 111, 109]⟩, .string (itB p.rf)] 9))
      obtain ⟨gq3, HGgq3⟩ := name_it wl2.heap.size
      rw [HWwq4.out] at st hx hcz hHeld ⊢
      rw [HGgq3.out] at hx ⊢
      refine wpAnyH_ready (rs := [8]) (by kernel_rfl) (by simp) ?_
      refine AllReadyH.cons (o := _) rfl (fun K' hK => ?_) AllReadyH.nil
      go_simp
      refine (lineOf_any _ _ _ _ _ hx (by rfl) (by omega)).mono ?_
      rintro e9 wl5 ⟨rfl, c6⟩
      rw [L7.out]
      replace st := st.keep0 c6
      replace hx := hx.keep0 c6
      replace hcz := hcz.then c6
      clear c6
      go_wp2_with fail
      refine hK.out _ _ ?_ (fun hHeld => ?_)
      · exact ⟨st.c0, st.c1, st.c2, st.c3, st.c4, st.c5, st.c6, st.c7, st.c8, st.c9, st.c10, st.c11, st.c12, st.c13⟩
      clear hK K'
      try simp only [Act.put, List.setIfInBounds_toArray, List.set_cons_zero, List.set_cons_succ]
      clear hx
      refine wpAnyH_take (i := 9) (v := ?_) rfl (by kernel_rfl) (by kernel_rfl) (by kernel_rfl) (fun _ _ _ h => h) (Or.inl ⟨by rfl, ?_⟩) (by assumption) ?_
      rotate_left 1
      · intro w hSw
        try dsimp only at hSw
        go_simp
        rw [if_neg (by (try simp only [ByteArray.size_append]); omega)]
        try with_reducible rfl
      try simp only [List.getElem_toArray, List.getElem_cons_succ, List.getElem_cons_zero]
      try simp only [Act.put, List.setIfInBounds_toArray, List.set_cons_zero, List.set_cons_succ]
      refine wpAnyH_take (i := 10) (v := ?_) rfl (by kernel_rfl) (by kernel_rfl) (by kernel_rfl) (fun _ _ _ h => h) (Or.inl ⟨by rfl, ?_⟩) (by assumption) ?_
      rotate_left 1
      · intro w hSw
        try dsimp only at hSw
        go_simp
        try with_reducible rfl
      try simp only [List.getElem_toArray, List.getElem_cons_succ, List.getElem_cons_zero]
      try simp only [Act.put, List.setIfInBounds_toArray, List.set_cons_zero, List.set_cons_succ]
      refine wpAnyH_done (by kernel_rfl) ?_ _
      go_wp2_with fail
      obtain ⟨Y, HY⟩ := name_it (X ++ l7)
      have zY : Y.size ≤ 700000 := by rw [← HY.out, ByteArray.size_append]; omega
      rw [HY.out] at hB ⊢
      clear zX z7 L7 HY hcz d1
      go_ret
      exact ⟨ret_eq (by rw [← hD.out, hB.out]; rfl), st.ch⟩
    · have hB := Lib.hid (hB0.out (by omega))
      have d1 : decide (0 < SG) = false := decide_eq_false h1
      have zY : X.size ≤ 700000 := by omega
      have k13 := st.c13
      clear h1 hB1 hB0 z7 zX
      go_wp2_with fail
      go_ret
      exact ⟨ret_eq (by rw [← hD.out, hB.out]; rfl), st.ch⟩
  · have d2 : (p.sec != -1) = true := by simpa using h2
    have hD := Lib.hid (hC1.out h2)
    have N6 := Lib.hid (HSC.out h2)
    have I6 := Lib.hid (itB_small _ N6.out.1 N6.out.2)
    have z8 : l8.size ≤ 100000 := by rw [← L8.out]; exact lineB_size _ (by simp) (by intro x hx; simp at hx; rcases hx with rfl | rfl; exact (show _ ≤ _ by decide); exact I6.out)
    clear h2 hC0 hC1
    by_cases h1 : 0 < SG
    · have hB := Lib.hid (hB1.out h1)
      have d1 : decide (0 < SG) = true := decide_eq_true h1
      clear h1 hB1 hB0
      go_wp2_with fail
      replace st := st.keep0 (Chg.refl [] wS).drew
      have hcz := st.ch
      refine wp_region_held_drew (S := (fun w' => w'.cell? ⟨g, 0, none⟩ = some (.string p.id) ∧ w'.cell? ⟨g, 1, none⟩ = some (.int .i64 p.es) ∧ w'.cell? ⟨g, 2, none⟩ = some (.int .i64 p.cr) ∧ w'.cell? ⟨g, 3, none⟩ = some (.string p.cd) ∧ w'.cell? ⟨g, 4, none⟩ = some (.bool p.am.neg) ∧ w'.cell? ⟨g, 5, none⟩ = some (.string p.am.num) ∧ w'.cell? ⟨g, 6, none⟩ = some (.string p.am.den) ∧ w'.cell? ⟨g, 7, none⟩ = some (.int .i64 p.inc) ∧ w'.cell? ⟨g, 8, none⟩ = some (.int .i64 p.rk) ∧ w'.cell? ⟨g, 9, none⟩ = some (.bool p.rt.neg) ∧ w'.cell? ⟨g, 10, none⟩ = some (.string p.rt.num) ∧ w'.cell? ⟨g, 11, none⟩ = some (.string p.rt.den) ∧ w'.cell? ⟨g, 12, none⟩ = some (.int .i64 p.rf) ∧ w'.cell? ⟨g, 13, none⟩ = some (.int .i64 p.sec))) (by kernel_rfl) ?_ (fun hHeld => ?_)
      · exact ⟨st.c0, st.c1, st.c2, st.c3, st.c4, st.c5, st.c6, st.c7, st.c8, st.c9, st.c10, st.c11, st.c12, st.c13⟩
      obtain ⟨wz, HWz⟩ := name_it wS.drew
      rw [HWz.out] at st hcz hHeld ⊢
      refine wpAnyH_take (i := 0) (v := ?_) rfl (by kernel_rfl) (by kernel_rfl) (by kernel_rfl) (fun _ _ _ h => h) (Or.inl ⟨by rfl, ?_⟩) (by assumption) ?_
      rotate_left 1
      · intro w hSw
        try dsimp only at hSw
        go_simp
        try with_reducible rfl
      try simp only [List.getElem_toArray, List.getElem_cons_zero]
      try simp only [Act.put, List.setIfInBounds_toArray, List.set_cons_zero, List.set_cons_succ]
      refine wpAnyH_take (i := 1) (v := ?_) rfl (by kernel_rfl) (by kernel_rfl) (by kernel_rfl) (fun _ _ _ h => h) (Or.inl ⟨by rfl, ?_⟩) (by assumption) ?_
      rotate_left 1
      · intro w hSw
        try dsimp only at hSw
        go_simp
        try with_reducible rfl
      try simp only [List.getElem_toArray, List.getElem_cons_succ, List.getElem_cons_zero]
      try simp only [Act.put, List.setIfInBounds_toArray, List.set_cons_zero, List.set_cons_succ]
      refine wpAnyH_take (i := 4) (v := ?_) rfl (by kernel_rfl) (by kernel_rfl) (by kernel_rfl) (fun _ _ _ h => h) (Or.inl ⟨by rfl, ?_⟩) (by assumption) ?_
      rotate_left 1
      · intro w hSw
        try dsimp only at hSw
        go_simp
        try with_reducible rfl
      try simp only [List.getElem_toArray, List.getElem_cons_succ, List.getElem_cons_zero]
      try simp only [Act.put, List.setIfInBounds_toArray, List.set_cons_zero, List.set_cons_succ]
      refine wpAnyH_take (i := 2) (v := ?_) rfl (by kernel_rfl) (by kernel_rfl) (by kernel_rfl) (fun _ _ _ h => h) (Or.inl ⟨by rfl, ?_⟩) (by assumption) ?_
      rotate_left 1
      · intro w hSw
        try dsimp only at hSw
        go_simp
        try with_reducible rfl
      try simp only [List.getElem_toArray, List.getElem_cons_succ, List.getElem_cons_zero]
      try simp only [Act.put, List.setIfInBounds_toArray, List.set_cons_zero, List.set_cons_succ]
      refine wpAnyH_take (i := 5) (v := ?_) rfl (by kernel_rfl) (by kernel_rfl) (by kernel_rfl) (fun _ _ _ h => h) (Or.inl ⟨by rfl, ?_⟩) (by assumption) ?_
      rotate_left 1
      · intro w hSw
        try dsimp only at hSw
        go_simp
        try with_reducible rfl
      try simp only [List.getElem_toArray, List.getElem_cons_succ, List.getElem_cons_zero]
      try simp only [Act.put, List.setIfInBounds_toArray, List.set_cons_zero, List.set_cons_succ]
      refine wpAnyH_ready (rs := [3]) (by kernel_rfl) (by simp) ?_
      refine AllReadyH.cons (o := _) rfl (fun K' hK => ?_) AllReadyH.nil
      go_simp
      refine (fmt_any p.rt _ HF.out.r).mono ?_
      rintro e9 wl1 ⟨rfl, c6⟩
      replace st := st.keep0 c6
      replace hcz := hcz.then c6
      clear c6
      go_wp2_with fail
      refine hK.out _ _ ?_ (fun hHeld => ?_)
      · exact ⟨st.c0, st.c1, st.c2, st.c3, st.c4, st.c5, st.c6, st.c7, st.c8, st.c9, st.c10, st.c11, st.c12, st.c13⟩
      clear hK K'
      try simp only [Act.put, List.setIfInBounds_toArray, List.set_cons_zero, List.set_cons_succ]
      refine wpAnyH_ready (rs := [6]) (by kernel_rfl) (by simp) ?_
      refine AllReadyH.cons (o := _) rfl (fun K' hK => ?_) AllReadyH.nil
      go_simp
      refine (itoa_any p.rf N5.out.1 N5.out.2 _ st.gl).mono ?_
      rintro e9 wl2 ⟨rfl, c6⟩
      replace st := st.keep0 c6
      replace hcz := hcz.then c6
      clear c6
      go_wp2_with fail
      refine hK.out _ _ ?_ (fun hHeld => ?_)
      · exact ⟨st.c0, st.c1, st.c2, st.c3, st.c4, st.c5, st.c6, st.c7, st.c8, st.c9, st.c10, st.c11, st.c12, st.c13⟩
      clear hK K'
      try simp only [Act.put, List.setIfInBounds_toArray, List.set_cons_zero, List.set_cons_succ]
      refine wpAnyH_ready (rs := [7]) (by kernel_rfl) (by simp) ?_
      refine AllReadyH.cons (o := _) rfl (fun K' hK => ?_) AllReadyH.nil
      go_simp
      refine hK.out _ _ ?_ (fun hHeld => ?_)
      · exact ⟨(st.keep0 ((Chg.refl [] _).alloc _)).c0, (st.keep0 ((Chg.refl [] _).alloc _)).c1, (st.keep0 ((Chg.refl [] _).alloc _)).c2, (st.keep0 ((Chg.refl [] _).alloc _)).c3, (st.keep0 ((Chg.refl [] _).alloc _)).c4, (st.keep0 ((Chg.refl [] _).alloc _)).c5, (st.keep0 ((Chg.refl [] _).alloc _)).c6, (st.keep0 ((Chg.refl [] _).alloc _)).c7, (st.keep0 ((Chg.refl [] _).alloc _)).c8, (st.keep0 ((Chg.refl [] _).alloc _)).c9, (st.keep0 ((Chg.refl [] _).alloc _)).c10, (st.keep0 ((Chg.refl [] _).alloc _)).c11, (st.keep0 ((Chg.refl [] _).alloc _)).c12, (st.keep0 ((Chg.refl [] _).alloc _)).c13⟩
      clear hK K'
      try simp only [Act.put, List.setIfInBounds_toArray, List.set_cons_zero, List.set_cons_succ]
      have hx := LW4 wl2 ⟨#[105, 110, 116, 101, 114, 101, 115, 116]⟩ (fmB (ratOf p.rt)) ⟨#[102, 114, 111, 109]⟩ (itB p.rf) 9 (show _ ≤ _ by decide) Z4.out (show _ ≤ _ by decide) I5.out
      have c9 : Chg [] wl2 (wl2.alloc (.cells #[.string ⟨#[105, 110, 116, 101, 114, 101, 115, 116]⟩, .string (fmB (ratOf p.rt)), .string ⟨#[102, 114, 111, 109]⟩, .string (itB p.rf)] 9)) := (Chg.refl _ _).alloc _
      replace st := st.keep0 c9
      replace hcz := hcz.then c9
      clear c9
      obtain ⟨wq4, HWwq4⟩ := name_it (wl2.alloc (.cells #[.string ⟨#[105, 110, 116, 101, 114, 101, 115, 116]⟩, .string (fmB (ratOf p.rt)), .string ⟨#[102, 114, 111, 109]⟩, .string (itB p.rf)] 9))
      obtain ⟨gq3, HGgq3⟩ := name_it wl2.heap.size
      rw [HWwq4.out] at st hx hcz hHeld ⊢
      rw [HGgq3.out] at hx ⊢
      refine wpAnyH_ready (rs := [8]) (by kernel_rfl) (by simp) ?_
      refine AllReadyH.cons (o := _) rfl (fun K' hK => ?_) AllReadyH.nil
      go_simp
      refine (lineOf_any _ _ _ _ _ hx (by rfl) (by omega)).mono ?_
      rintro e9 wl5 ⟨rfl, c6⟩
      rw [L7.out]
      replace st := st.keep0 c6
      replace hx := hx.keep0 c6
      replace hcz := hcz.then c6
      clear c6
      go_wp2_with fail
      refine hK.out _ _ ?_ (fun hHeld => ?_)
      · exact ⟨st.c0, st.c1, st.c2, st.c3, st.c4, st.c5, st.c6, st.c7, st.c8, st.c9, st.c10, st.c11, st.c12, st.c13⟩
      clear hK K'
      try simp only [Act.put, List.setIfInBounds_toArray, List.set_cons_zero, List.set_cons_succ]
      clear hx
      refine wpAnyH_take (i := 9) (v := ?_) rfl (by kernel_rfl) (by kernel_rfl) (by kernel_rfl) (fun _ _ _ h => h) (Or.inl ⟨by rfl, ?_⟩) (by assumption) ?_
      rotate_left 1
      · intro w hSw
        try dsimp only at hSw
        go_simp
        rw [if_neg (by (try simp only [ByteArray.size_append]); omega)]
        try with_reducible rfl
      try simp only [List.getElem_toArray, List.getElem_cons_succ, List.getElem_cons_zero]
      try simp only [Act.put, List.setIfInBounds_toArray, List.set_cons_zero, List.set_cons_succ]
      refine wpAnyH_take (i := 10) (v := ?_) rfl (by kernel_rfl) (by kernel_rfl) (by kernel_rfl) (fun _ _ _ h => h) (Or.inl ⟨by rfl, ?_⟩) (by assumption) ?_
      rotate_left 1
      · intro w hSw
        try dsimp only at hSw
        go_simp
        try with_reducible rfl
      try simp only [List.getElem_toArray, List.getElem_cons_succ, List.getElem_cons_zero]
      try simp only [Act.put, List.setIfInBounds_toArray, List.set_cons_zero, List.set_cons_succ]
      refine wpAnyH_done (by kernel_rfl) ?_ _
      go_wp2_with fail
      obtain ⟨Y, HY⟩ := name_it (X ++ l7)
      have zY : Y.size ≤ 700000 := by rw [← HY.out, ByteArray.size_append]; omega
      rw [HY.out] at hB ⊢
      clear zX z7 L7 HY hcz d1
      go_wp2_with (first
        | (go_at_call 71
           refine (itoa_any p.sec N6.out.1 N6.out.2 _ st.gl).mono ?_
           rintro e w5 ⟨rfl, c5⟩
           have st5 := st.keep0 c5)
        | (go_at_call 70
           refine (lineOf_any _ _ _ _ _ (LW2 _ ⟨#[115, 101, 99, 117, 114, 101, 100]⟩ (itB p.sec) _ (show _ ≤ _ by decide) I6.out) (by rfl) (by omega)).mono ?_
           rintro e w6 ⟨rfl, c6⟩
           rw [L8.out]
           have st6 := st5.keep0 (((Chg.refl [] _).alloc _).then c6))
        | fail)
      go_ret
      exact ⟨ret_eq (by rw [← hD.out, hB.out]; rfl), st6.ch⟩
    · have hB := Lib.hid (hB0.out (by omega))
      have d1 : decide (0 < SG) = false := decide_eq_false h1
      have zY : X.size ≤ 700000 := by omega
      have k13 := st.c13
      clear h1 hB1 hB0 z7 zX
      go_wp2_with (first
        | (go_at_call 71
           refine (itoa_any p.sec N6.out.1 N6.out.2 _ st.gl).mono ?_
           rintro e w5 ⟨rfl, c5⟩
           have st5 := st.keep0 c5)
        | (go_at_call 70
           refine (lineOf_any _ _ _ _ _ (LW2 _ ⟨#[115, 101, 99, 117, 114, 101, 100]⟩ (itB p.sec) _ (show _ ≤ _ by decide) I6.out) (by rfl) (by omega)).mono ?_
           rintro e w6 ⟨rfl, c6⟩
           rw [L8.out]
           have st6 := st5.keep0 (((Chg.refl [] _).alloc _).then c6))
        | fail)
      go_ret
      exact ⟨ret_eq (by rw [← hD.out, hB.out]; rfl), st6.ch⟩
end Go.Proofs.YtogciehmdlfkfaaGreatDoor
