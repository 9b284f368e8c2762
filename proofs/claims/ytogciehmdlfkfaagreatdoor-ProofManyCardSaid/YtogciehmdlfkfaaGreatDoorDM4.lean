/-
  Mathematics: what Format writes Parse reads.
-/
import Derived.Test.YtogciehmdlfkfaaGreatDoorHE
import Derived.Test.YtogciehmdlfkfaaGreatDoorV14
namespace Go.Proofs.YtogciehmdlfkfaaGreatDoor
open Go.RowKit Nd

def Cln (l : List UInt8) : Prop := ∀ x ∈ l, x ≠ 32 ∧ x ≠ 10
theorem cln_isD {l : List UInt8} (h : l.all isD = true) : Cln l := by
  intro x hx
  have := (isD_iff x).1 (List.all_eq_true.1 h x hx)
  constructor <;> (rintro rfl; simp at this)
theorem cln_dec (n : Nat) : Cln (decL n) := cln_isD (cnd_all (decL_canD n))
theorem cln_app {a b : List UInt8} (ha : Cln a) (hb : Cln b) : Cln (a ++ b) := by
  intro x hx
  rcases List.mem_append.1 hx with h | h
  · exact ha x h
  · exact hb x h
theorem cln_cons {c : UInt8} {l : List UInt8} (hc : c ≠ 32 ∧ c ≠ 10) (hl : Cln l) : Cln (c :: l) := by
  intro x hx
  rcases List.mem_cons.1 hx with h | h
  · rw [h]; exact hc
  · exact hl x h
theorem cln_nil : Cln [] := fun _ h => by cases h
theorem cln_fmt (q : Rat) : Cln (fmtL q) := by
  unfold fmtL
  refine cln_app ?_ (cln_app (cln_dec _) ?_)
  · split
    · exact cln_cons (by decide) cln_nil
    · exact cln_nil
  · split
    · exact cln_nil
    · exact cln_cons (by decide) (cln_dec _)
theorem cln_byt {s : ByteArray} (p : Nat → Bool) (h32 : p 32 = false) (h10 : p 10 = false) (h : ∀ j, j < s.size → p (byt s j) = true) : Cln s.data.toList := by
  have := (all_byt s (fun b => p b.toNat) p (fun _ => rfl)).2 h
  intro x hx
  have hp := this x hx
  constructor
  · rintro rfl; rw [show (32 : UInt8).toNat = 32 from rfl, h32] at hp; cases hp
  · rintro rfl; rw [show (10 : UInt8).toNat = 10 from rfl, h10] at hp; cases hp
theorem cln_name {s : ByteArray} (h : nameB s = true) : Cln s.data.toList := by
  unfold nameB at h
  simp only [Bool.and_eq_true, decide_eq_true_eq] at h
  exact cln_byt nmC (by decide) (by decide) h.2.2.2
theorem cln_code {s : ByteArray} (h : codeB s = true) : Cln s.data.toList := by
  unfold codeB at h
  simp only [Bool.and_eq_true, decide_eq_true_eq] at h
  exact cln_byt let1 (by decide) (by decide) h.2
def bA (l : List UInt8) : ByteArray := ⟨l.toArray⟩
theorem bA_self (s : ByteArray) : bA s.data.toList = s := by simp [bA]
theorem n32 {l : List UInt8} (h : Cln l) : ∀ x ∈ l, x ≠ 32 := fun x hx => (h x hx).1
theorem words2 {a b : List UInt8} (ha : Cln a) (hb : Cln b) : wordsB ⟨(a ++ 32 :: b).toArray⟩ = [bA a, bA b] := by
  unfold wordsB
  simp only [spl_app 32 a b (n32 ha), spl_none 32 b (n32 hb)]
  rfl
theorem words3 {a b c : List UInt8} (ha : Cln a) (hb : Cln b) (hc : Cln c) : wordsB ⟨(a ++ 32 :: b ++ 32 :: c).toArray⟩ = [bA a, bA b, bA c] := by
  unfold wordsB
  rw [List.append_assoc, List.cons_append]
  simp only [spl_app 32 a _ (n32 ha), spl_app 32 b _ (n32 hb), spl_none 32 c (n32 hc)]
  rfl
theorem words4 {a b c d : List UInt8} (ha : Cln a) (hb : Cln b) (hc : Cln c) (hd : Cln d) : wordsB ⟨(a ++ 32 :: b ++ 32 :: c ++ 32 :: d).toArray⟩ = [bA a, bA b, bA c, bA d] := by
  unfold wordsB
  simp only [List.append_assoc, List.cons_append]
  simp only [spl_app 32 a _ (n32 ha), spl_app 32 b _ (n32 hb), spl_app 32 c _ (n32 hc), spl_none 32 d (n32 hd)]
  rfl
theorem hasF2 (a b c d : ByteArray) : hasF [a, b] [c, d] = (fitW c a && fitW d b) := by
  unfold hasF
  rw [Bool.eq_iff_iff]
  simp only [List.length_cons, List.length_nil, decide_true, Bool.true_and, decide_eq_true_eq, Bool.and_eq_true]
  constructor
  · intro h; exact ⟨h 0 (by omega), h 1 (by omega)⟩
  · rintro ⟨h0, h1⟩ i hi
    match i, hi with
    | 0, _ => exact h0
    | 1, _ => exact h1
theorem hasF3 (a b c d e f : ByteArray) : hasF [a, b, c] [d, e, f] = (fitW d a && (fitW e b && fitW f c)) := by
  unfold hasF
  rw [Bool.eq_iff_iff]
  simp only [List.length_cons, List.length_nil, decide_true, Bool.true_and, decide_eq_true_eq, Bool.and_eq_true]
  constructor
  · intro h; exact ⟨h 0 (by omega), h 1 (by omega), h 2 (by omega)⟩
  · rintro ⟨h0, h1, h2⟩ i hi
    match i, hi with
    | 0, _ => exact h0
    | 1, _ => exact h1
    | 2, _ => exact h2
theorem hasF4 (a b c d e f g i : ByteArray) : hasF [a, b, c, d] [e, f, g, i] = (fitW e a && (fitW f b && (fitW g c && fitW i d))) := by
  unfold hasF
  rw [Bool.eq_iff_iff]
  simp only [List.length_cons, List.length_nil, decide_true, Bool.true_and, decide_eq_true_eq, Bool.and_eq_true]
  constructor
  · intro h; exact ⟨h 0 (by omega), h 1 (by omega), h 2 (by omega), h 3 (by omega)⟩
  · rintro ⟨h0, h1, h2, h3⟩ i hi
    match i, hi with
    | 0, _ => exact h0
    | 1, _ => exact h1
    | 2, _ => exact h2
    | 3, _ => exact h3
theorem hasF_len {ws f : List ByteArray} (h : ws.length ≠ f.length) : hasF ws f = false := by
  unfold hasF; rw [decide_eq_false h]; rfl
theorem fitN (w : ByteArray) : fitW sN w = numB w := by
  unfold fitW; rw [if_neg (by decide), if_pos rfl]
theorem fitA {p : ByteArray} (w : ByteArray) (h : p = sID ∨ p = sCODE ∨ p = sR) : fitW p w = true := by
  unfold fitW; rw [if_pos h]
theorem kind_pro (x : ByteArray) : kindW [kPro, x] = 0 := by
  unfold kindW formsW kindFrom
  rw [hasF2, fitA x (Or.inl rfl), if_pos (by decide)]
theorem kind_est {x : ByteArray} (h : numB x = true) : kindW [kEst, x] = 1 := by
  unfold kindW formsW
  have e0 : fitW kPro kEst = false := by decide
  have e1 : fitW kEst kEst = true := by decide
  simp [kindFrom, hasF2, fitN, e0, e1, h]
theorem kind_cre {x : ByteArray} (h : numB x = true) : kindW [kCre, x] = 2 := by
  unfold kindW formsW
  have e0 : fitW kPro kCre = false := by decide
  have e1 : fitW kEst kCre = false := by decide
  have e2 : fitW kCre kCre = true := by decide
  simp [kindFrom, hasF2, fitN, e0, e1, e2, h]
theorem kind_amo (x y : ByteArray) : kindW [kAmo, x, y] = 3 := by
  unfold kindW formsW
  have e3 : fitW kAmo kAmo = true := by decide
  have l0 : ∀ a b : ByteArray, hasF [kAmo, x, y] [a, b] = false := fun a b => hasF_len (by simp)
  simp [kindFrom, hasF3, l0, e3, fitA x (Or.inr (Or.inl rfl)), fitA y (Or.inr (Or.inr rfl))]
theorem kind_inc {x : ByteArray} (h : numB x = true) : kindW [kInc, x] = 4 := by
  unfold kindW formsW
  have e0 : fitW kPro kInc = false := by decide
  have e1 : fitW kEst kInc = false := by decide
  have e2 : fitW kCre kInc = false := by decide
  have e4 : fitW kInc kInc = true := by decide
  have l0 : ∀ a b c : ByteArray, hasF [kInc, x] [a, b, c] = false := fun a b c => hasF_len (by simp)
  simp [kindFrom, hasF2, fitN, l0, e0, e1, e2, e4, h]
theorem kind_ran {x : ByteArray} (h : numB x = true) : kindW [kRan, x] = 5 := by
  unfold kindW formsW
  have e0 : fitW kPro kRan = false := by decide
  have e1 : fitW kEst kRan = false := by decide
  have e2 : fitW kCre kRan = false := by decide
  have e4 : fitW kInc kRan = false := by decide
  have e5 : fitW kRan kRan = true := by decide
  have l0 : ∀ a b c : ByteArray, hasF [kRan, x] [a, b, c] = false := fun a b c => hasF_len (by simp)
  simp [kindFrom, hasF2, fitN, l0, e0, e1, e2, e4, e5, h]
theorem kind_int (x : ByteArray) {y : ByteArray} (h : numB y = true) : kindW [kInt, x, kFro, y] = 6 := by
  unfold kindW formsW
  have e6 : fitW kInt kInt = true := by decide
  have e7 : fitW kFro kFro = true := by decide
  have l0 : ∀ a b : ByteArray, hasF [kInt, x, kFro, y] [a, b] = false := fun a b => hasF_len (by simp)
  have l1 : ∀ a b c : ByteArray, hasF [kInt, x, kFro, y] [a, b, c] = false := fun a b c => hasF_len (by simp)
  simp [kindFrom, hasF4, l0, l1, fitN, e6, e7, h, fitA x (Or.inr (Or.inr rfl))]
theorem kind_sec {x : ByteArray} (h : numB x = true) : kindW [kSec, x] = 7 := by
  unfold kindW formsW
  have e0 : fitW kPro kSec = false := by decide
  have e1 : fitW kEst kSec = false := by decide
  have e2 : fitW kCre kSec = false := by decide
  have e4 : fitW kInc kSec = false := by decide
  have e5 : fitW kRan kSec = false := by decide
  have e7 : fitW kSec kSec = true := by decide
  have l0 : ∀ a b c : ByteArray, hasF [kSec, x] [a, b, c] = false := fun a b c => hasF_len (by simp)
  have l1 : ∀ a b c d : ByteArray, hasF [kSec, x] [a, b, c, d] = false := fun a b c d => hasF_len (by simp)
  simp [kindFrom, hasF2, fitN, l0, l1, e0, e1, e2, e4, e5, e7, h]
theorem num_it {n top : Int} (h : upB n top = true) (ht : top ≤ 1048576) : numB (bA (itL n)) = true ∧ ((numV (bA (itL n)) : Nat) : Int) = n ∧ numE (bA (itL n)) top = 0 := by
  unfold upB at h
  simp only [Bool.and_eq_true, decide_eq_true_eq] at h
  have hv : ((numV (bA (itL n)) : Nat) : Int) = n := by
    have : numV (bA (itL n)) = n.toNat := by
      show dv (decL n.toNat) = n.toNat
      exact decL_dv _
    rw [this]; omega
  refine ⟨?_, hv, ?_⟩
  · unfold numB
    have h1 : canD (bA (itL n)).data.toList = true := decL_canD _
    have h2 : (bA (itL n)).size ≤ 9 := by
      show (decL n.toNat).toArray.size ≤ 9
      rw [List.size_toArray]
      exact decL_len (by omega) (by omega)
    rw [h1, decide_eq_true h2]; rfl
  · unfold numE; rw [hv, if_pos h.2]

/-- What a document must be for its lines to be read back. -/
structure Prs (p : Pf) : Prop where
  ck : chkE p = 0
  am : p.am = qc (ratOf p.am)
  rt : p.rt = qc (ratOf p.rt)
  a1 : (decL (ratOf p.am).num.natAbs).length ≤ 2000
  a2 : (decL (ratOf p.am).den).length ≤ 2000
  r1 : (decL (ratOf p.rt).num.natAbs).length ≤ 2000
  r2 : (decL (ratOf p.rt).den).length ≤ 2000
/-- What Check's 0 says. -/
structure Ck0 (p : Pf) : Prop where
  id : nameB p.id = true
  es : upB p.es 7 = true
  cr : upB p.cr 31 = true
  cd : codeB p.cd = true
  am : ¬ ratOf p.am < 0
  inc : upB p.inc 1048576 = true
  rk : upB p.rk 7 = true
  rt : ¬ ratOf p.rt < 0
  rf : upB p.rf 1048576 = true
  rz : ratOf p.rt = 0 → p.rf = 0
  sec : p.sec ≠ -1 → upB p.sec 7 = true
theorem ck0 {p : Pf} (h : chkE p = 0) : Ck0 p := by
  have e : ∀ b : Bool, ¬ b = false → b = true := by decide
  unfold chkE at h
  split at h
  · exact absurd h (by decide)
  rename_i h1
  split at h
  · exact absurd h (by decide)
  rename_i h2
  split at h
  · exact absurd h (by decide)
  rename_i h3
  split at h
  · exact absurd h (by decide)
  rename_i h4
  split at h
  · exact absurd h (by decide)
  rename_i h5
  unfold optE at h
  split at h
  · exact absurd h (by decide)
  rename_i h6
  split at h
  · exact absurd h (by decide)
  rename_i h7
  split at h
  · exact absurd h (by decide)
  rename_i h8
  refine ⟨e _ h1, e _ fun k => h2 (Or.inl k), e _ fun k => h2 (Or.inr k), e _ h3, ?_, e _ fun k => h5 (Or.inl k), e _ fun k => h5 (Or.inr k), ?_, e _ fun k => h7 (Or.inl k), ?_, ?_⟩
  · rw [sg_neg] at h4; exact h4
  · rw [sg_neg] at h6; exact h6
  · intro hz
    by_cases hr : p.rf = 0
    · exact hr
    · exact absurd (Or.inr ⟨(sg_zero _).2 hz, hr⟩) h7
  · intro hs
    exact e _ fun k => h8 ⟨hs, k⟩
theorem qty_ok {q : Rat} (hq : ¬ q < 0) (h1 : (decL q.num.natAbs).length ≤ 2000) (h2 : (decL q.den).length ≤ 2000) : qtyE (bA (fmtL q)) = 0 ∧ qtyQ (bA (fmtL q)) = q := by
  have := parse_fmt q h1 h2
  have e : (bA (fmtL q)).data.toList = fmtL q := by simp [bA]
  unfold qtyE qtyQ
  rw [e, this]
  simp [hq]
/-- A line behind the first one of a document. -/
theorem line_set {L : List Pf} {q : Pf} {k kk : Int} {s : List UInt8} {ws : List ByteArray} (hw : wordsB ⟨s.toArray⟩ = ws) (hk : kindW ws = kk) (h0 : kk ≠ 0) (h1 : kk ≠ -1) (hf : folB k kk = true) (he : setE kk ws = 0) (t : List (List UInt8 × Bool)) (n : Int) :
    readL ((s, true) :: t) ⟨L ++ [q], k⟩ n = readL t ⟨L ++ [setP q kk ws], kk⟩ (n + 1) := by
  have hE : lineE ⟨L ++ [q], k⟩ ⟨s.toArray⟩ true = 0 := by
    unfold lineE
    rw [hw, hk, if_neg (by simp [h1, hf]), if_neg h0, he]
  have hR : lineR ⟨L ++ [q], k⟩ ⟨s.toArray⟩ = ⟨L ++ [setP q kk ws], kk⟩ := by
    unfold lineR
    rw [hw, hk, if_neg h0]
    simp [List.getD_eq_getElem?_getD]
  rw [readL, if_neg (by rw [hE]; simp), hR]
/-- The first line of a document. -/
theorem line_pro {L : List Pf} {k : Int} {id : ByteArray} (hm : k = -1 ∨ 5 ≤ k) (hn : nameB id = true) (hu : L.any (fun p => decide (p.id = id)) = false) (hl : L.length < 64) (t : List (List UInt8 × Bool)) (n : Int) :
    readL ((kPro.data.toList ++ 32 :: id.data.toList, true) :: t) ⟨L, k⟩ n = readL t ⟨L ++ [newP id], 0⟩ (n + 1) := by
  have hw : wordsB ⟨(kPro.data.toList ++ 32 :: id.data.toList).toArray⟩ = [kPro, id] := by
    rw [words2 (by intro x hx; revert x; decide) (cln_name hn), bA_self, bA_self]
  have hE : lineE ⟨L, k⟩ ⟨(kPro.data.toList ++ 32 :: id.data.toList).toArray⟩ true = 0 := by
    unfold lineE
    rw [hw, kind_pro, if_neg (by simp [folB, hm]), if_pos rfl]
    simp [hn, hu]; omega
  have hR : lineR ⟨L, k⟩ ⟨(kPro.data.toList ++ 32 :: id.data.toList).toArray⟩ = ⟨L ++ [newP id], 0⟩ := by
    unfold lineR
    rw [hw, kind_pro, if_pos rfl]; rfl
  rw [readL, if_neg (by rw [hE]; simp), hR]

theorem n10 {l : List UInt8} (h : Cln l) : ∀ x ∈ l, x ≠ 10 := fun x hx => (h x hx).2
theorem ten2 {a b : List UInt8} (ha : Cln a) (hb : Cln b) : ∀ x ∈ a ++ 32 :: b, x ≠ 10 := by
  intro x hx
  rcases List.mem_append.1 hx with h | h
  · exact n10 ha x h
  · rcases List.mem_cons.1 h with h | h
    · rw [h]; decide
    · exact n10 hb x h
theorem lnE2 {a b : List UInt8} (ha : Cln a) (hb : Cln b) (r : List UInt8) : lnE (a ++ 32 :: (b ++ 10 :: r)) = (a ++ 32 :: b, true) :: lnE r := by
  have := lnE_app (a ++ 32 :: b) r (ten2 ha hb)
  simpa using this
theorem lnE3 {a b c : List UInt8} (ha : Cln a) (hb : Cln b) (hc : Cln c) (r : List UInt8) : lnE (a ++ 32 :: (b ++ 32 :: (c ++ 10 :: r))) = (a ++ 32 :: b ++ 32 :: c, true) :: lnE r := by
  have := lnE_app (a ++ 32 :: b ++ 32 :: c) r (by
    intro x hx
    rcases List.mem_append.1 hx with h | h
    · exact ten2 ha hb x h
    · rcases List.mem_cons.1 h with h | h
      · rw [h]; decide
      · exact n10 hc x h)
  simpa using this
theorem lnE4 {a b c d : List UInt8} (ha : Cln a) (hb : Cln b) (hc : Cln c) (hd : Cln d) (r : List UInt8) : lnE (a ++ 32 :: (b ++ 32 :: (c ++ 32 :: (d ++ 10 :: r)))) = (a ++ 32 :: b ++ 32 :: c ++ 32 :: d, true) :: lnE r := by
  have := lnE_app (a ++ 32 :: b ++ 32 :: c ++ 32 :: d) r (by
    intro x hx
    rcases List.mem_append.1 hx with h | h
    · rcases List.mem_append.1 h with h | h
      · exact ten2 ha hb x h
      · rcases List.mem_cons.1 h with h | h
        · rw [h]; decide
        · exact n10 hc x h
    · rcases List.mem_cons.1 h with h | h
      · rw [h]; decide
      · exact n10 hd x h)
  simpa using this
theorem kln (k : ByteArray) (h : ∀ x ∈ k.data.toList, x ≠ 32 ∧ x ≠ 10) : Cln k.data.toList := h
theorem cln_it (n : Int) : Cln (itL n) := cln_dec _
theorem cl0 : Cln kPro.data.toList := by intro x hx; revert x; decide
theorem cl1 : Cln kEst.data.toList := by intro x hx; revert x; decide
theorem cl2 : Cln kCre.data.toList := by intro x hx; revert x; decide
theorem cl3 : Cln kAmo.data.toList := by intro x hx; revert x; decide
theorem cl4 : Cln kInc.data.toList := by intro x hx; revert x; decide
theorem cl5 : Cln kRan.data.toList := by intro x hx; revert x; decide
theorem cl6 : Cln kInt.data.toList := by intro x hx; revert x; decide
theorem cl7 : Cln kSec.data.toList := by intro x hx; revert x; decide
theorem cl8 : Cln kFro.data.toList := by intro x hx; revert x; decide
/-- The lines of a document. -/
def lnsA (p : Pf) : List (List UInt8 × Bool) :=
  [(kPro.data.toList ++ 32 :: p.id.data.toList, true), (kEst.data.toList ++ 32 :: itL p.es, true), (kCre.data.toList ++ 32 :: itL p.cr, true),
   (kAmo.data.toList ++ 32 :: p.cd.data.toList ++ 32 :: fmtL (ratOf p.am), true), (kInc.data.toList ++ 32 :: itL p.inc, true), (kRan.data.toList ++ 32 :: itL p.rk, true)]
def lnsB (p : Pf) : List (List UInt8 × Bool) := if 0 < sg (ratOf p.rt) then [(kInt.data.toList ++ 32 :: fmtL (ratOf p.rt) ++ 32 :: kFro.data.toList ++ 32 :: itL p.rf, true)] else []
def lnsC (p : Pf) : List (List UInt8 × Bool) := if p.sec ≠ -1 then [(kSec.data.toList ++ 32 :: itL p.sec, true)] else []
def lns (p : Pf) : List (List UInt8 × Bool) := lnsA p ++ (lnsB p ++ lnsC p)
theorem lnE_doc {p : Pf} (c : Ck0 p) (r : List UInt8) : lnE (docL p ++ r) = lns p ++ lnE r := by
  have hB : ∀ r, lnE ((if 0 < sg (ratOf p.rt) then kInt.data.toList ++ 32 :: fmtL (ratOf p.rt) ++ 32 :: kFro.data.toList ++ 32 :: itL p.rf ++ [10] else []) ++ r) = lnsB p ++ lnE r := by
    intro r
    unfold lnsB
    split
    · have := lnE4 cl6 (cln_fmt (ratOf p.rt)) cl8 (cln_dec p.rf.toNat) r
      simpa [itL] using this
    · rfl
  have hC : ∀ r, lnE ((if p.sec ≠ -1 then kSec.data.toList ++ 32 :: itL p.sec ++ [10] else []) ++ r) = lnsC p ++ lnE r := by
    intro r
    unfold lnsC
    split
    · have := lnE2 cl7 (cln_dec p.sec.toNat) r
      simpa [itL] using this
    · rfl
  unfold docL lns lnsA
  obtain ⟨B, eB⟩ : ∃ B, B = (if 0 < sg (ratOf p.rt) then kInt.data.toList ++ 32 :: fmtL (ratOf p.rt) ++ 32 :: kFro.data.toList ++ 32 :: itL p.rf ++ [10] else []) := ⟨_, rfl⟩
  obtain ⟨C, eC⟩ : ∃ C, C = (if p.sec ≠ -1 then kSec.data.toList ++ 32 :: itL p.sec ++ [10] else []) := ⟨_, rfl⟩
  rw [← eB] at hB ⊢
  rw [← eC] at hC ⊢
  simp only [List.append_assoc, List.cons_append, List.nil_append]
  rw [lnE2 cl0 (cln_name c.id), lnE2 cl1 (cln_it _), lnE2 cl2 (cln_it _), lnE3 cl3 (cln_code c.cd) (cln_fmt _), lnE2 cl4 (cln_it _), lnE2 cl5 (cln_it _), hB, hC]
  simp only [List.append_assoc, List.cons_append]

def kEnd (p : Pf) : Int := if p.sec ≠ -1 then 7 else if 0 < sg (ratOf p.rt) then 6 else 5
theorem kEnd_may (p : Pf) : kEnd p = -1 ∨ 5 ≤ kEnd p := by
  unfold kEnd
  right
  split
  · decide
  · split <;> decide
theorem wk2 {k : ByteArray} {l : List UInt8} (hk : Cln k.data.toList) (hl : Cln l) : wordsB ⟨(k.data.toList ++ 32 :: l).toArray⟩ = [k, bA l] := by
  rw [words2 hk hl, bA_self]
theorem rt_zero {p : Pf} (c : Ck0 p) (h : ¬ 0 < sg (ratOf p.rt)) : ratOf p.rt = 0 := by
  have h1 : ¬ sg (ratOf p.rt) < 0 := fun k => c.rt ((sg_neg _).1 k)
  exact (sg_zero _).1 (by omega)
theorem qc_zero : qc 0 = q0 := by kernel_rfl
set_option maxHeartbeats 1000000 in
theorem read_doc {p : Pf} (hp : Prs p) {L : List Pf} {k : Int} (hm : k = -1 ∨ 5 ≤ k) (hu : L.any (fun q => decide (q.id = p.id)) = false) (hl : L.length < 64) (t : List (List UInt8 × Bool)) (n : Int) :
    readL (lns p ++ t) ⟨L, k⟩ n = readL t ⟨L ++ [p], kEnd p⟩ (n + ((lns p).length : Int)) := by
  have c := ck0 hp.ck
  obtain ⟨m1, v1, s1⟩ := num_it c.es (by decide)
  obtain ⟨m2, v2, s2⟩ := num_it c.cr (by decide)
  obtain ⟨m4, v4, s4⟩ := num_it c.inc (by decide)
  obtain ⟨m5, v5, s5⟩ := num_it c.rk (by decide)
  obtain ⟨m6, v6, s6⟩ := num_it c.rf (by decide)
  obtain ⟨b1, b2⟩ := qty_ok c.am hp.a1 hp.a2
  obtain ⟨g1, g2⟩ := qty_ok c.rt hp.r1 hp.r2
  have w3 : wordsB ⟨(kAmo.data.toList ++ 32 :: p.cd.data.toList ++ 32 :: fmtL (ratOf p.am)).toArray⟩ = [kAmo, p.cd, bA (fmtL (ratOf p.am))] := by
    rw [words3 cl3 (cln_code c.cd) (cln_fmt _), bA_self, bA_self]
  have e1 : setE 1 [kEst, bA (itL p.es)] = 0 := by simpa [setE] using s1
  have e2 : setE 2 [kCre, bA (itL p.cr)] = 0 := by simpa [setE] using s2
  have e3 : setE 3 [kAmo, p.cd, bA (fmtL (ratOf p.am))] = 0 := by simpa [setE, c.cd] using b1
  have e4 : setE 4 [kInc, bA (itL p.inc)] = 0 := by simpa [setE] using s4
  have e5 : setE 5 [kRan, bA (itL p.rk)] = 0 := by simpa [setE] using s5
  have hA : ∀ t n, readL (lnsA p ++ t) ⟨L, k⟩ n = readL t ⟨L ++ [{ p with rt := q0, rf := 0, sec := -1 }], 5⟩ (n + 6) := by
    intro t n
    unfold lnsA
    simp only [List.cons_append, List.nil_append]
    have hw3 := w3
    rw [line_pro hm c.id hu hl, line_set (wk2 cl1 (cln_it _)) (kind_est m1) (by decide) (by decide) (by decide) e1,
      line_set (wk2 cl2 (cln_it _)) (kind_cre m2) (by decide) (by decide) (by decide) e2, line_set w3 (kind_amo _ _) (by decide) (by decide) (by decide) e3,
      line_set (wk2 cl4 (cln_it _)) (kind_inc m4) (by decide) (by decide) (by decide) e4, line_set (wk2 cl5 (cln_it _)) (kind_ran m5) (by decide) (by decide) (by decide) e5]
    have hq : setP (setP (setP (setP (setP (newP p.id) 1 [kEst, bA (itL p.es)]) 2 [kCre, bA (itL p.cr)]) 3 [kAmo, p.cd, bA (fmtL (ratOf p.am))]) 4 [kInc, bA (itL p.inc)]) 5 [kRan, bA (itL p.rk)] = { p with rt := q0, rf := 0, sec := -1 } := by
      simp only [setP, newP, pf0]
      simp [v1, v2, v4, v5, b2, ← hp.am]
    rw [hq]
    congr 1
    omega
  unfold lns
  rw [List.append_assoc, hA]
  have hB : ∀ t n, readL (lnsB p ++ t) ⟨L ++ [{ p with rt := q0, rf := 0, sec := -1 }], 5⟩ n = readL t ⟨L ++ [{ p with sec := -1 }], if 0 < sg (ratOf p.rt) then 6 else 5⟩ (n + ((lnsB p).length : Int)) := by
    intro t n
    unfold lnsB
    by_cases h : 0 < sg (ratOf p.rt)
    · have hz : ratOf p.rt ≠ 0 := fun k => by rw [k] at h; exact absurd h (by decide)
      have w6 : wordsB ⟨(kInt.data.toList ++ 32 :: fmtL (ratOf p.rt) ++ 32 :: kFro.data.toList ++ 32 :: itL p.rf).toArray⟩ = [kInt, bA (fmtL (ratOf p.rt)), kFro, bA (itL p.rf)] := by
        rw [words4 cl6 (cln_fmt _) cl8 (cln_it _), bA_self, bA_self]
      have e6 : setE 6 [kInt, bA (fmtL (ratOf p.rt)), kFro, bA (itL p.rf)] = 0 := by simpa [setE, g1, g2, hz] using s6
      rw [if_pos h, if_pos h]
      simp only [List.cons_append, List.nil_append]
      rw [line_set w6 (kind_int _ m6) (by decide) (by decide) (by decide) e6]
      have hq : setP { p with rt := q0, rf := 0, sec := -1 } 6 [kInt, bA (fmtL (ratOf p.rt)), kFro, bA (itL p.rf)] = { p with sec := -1 } := by
        simp only [setP]
        simp [v6, g2, ← hp.rt]
      rw [hq]; rfl
    · rw [if_neg h, if_neg h]
      have hz := rt_zero c h
      have e1 : p.rt = q0 := by rw [hp.rt, hz]; exact qc_zero
      have e2 : p.rf = 0 := c.rz hz
      have hq : ({ p with rt := q0, rf := 0, sec := -1 } : Pf) = { p with sec := -1 } := by rw [← e1, ← e2]
      rw [hq]; simp
  rw [List.append_assoc, hB]
  have hC : ∀ t n k, (k = 5 ∨ k = 6) → readL (lnsC p ++ t) ⟨L ++ [{ p with sec := -1 }], k⟩ n = readL t ⟨L ++ [p], if p.sec ≠ -1 then 7 else k⟩ (n + ((lnsC p).length : Int)) := by
    intro t n k hk
    unfold lnsC
    by_cases h : p.sec ≠ -1
    · obtain ⟨m7, v7, s7⟩ := num_it (c.sec h) (by decide)
      have e7 : setE 7 [kSec, bA (itL p.sec)] = 0 := by simpa [setE] using s7
      rw [if_pos h, if_pos h]
      simp only [List.cons_append, List.nil_append]
      rw [line_set (wk2 cl7 (cln_it _)) (kind_sec m7) (by decide) (by decide) (by rcases hk with rfl | rfl <;> decide) e7]
      have hq : setP { p with sec := -1 } 7 [kSec, bA (itL p.sec)] = p := by
        simp only [setP]
        simp [v7]
      rw [hq]; rfl
    · rw [if_neg h, if_neg h]
      have e1 : p.sec = -1 := by simpa using h
      have hq : ({ p with sec := -1 } : Pf) = p := by rw [← e1]
      rw [hq]; simp
  rw [hC t _ _ (by split <;> simp)]
  have hk : (if p.sec ≠ -1 then (7 : Int) else if 0 < sg (ratOf p.rt) then 6 else 5) = kEnd p := rfl
  rw [hk]
  congr 1
  simp [lnsA]
  omega

theorem allFrom_ids (l : List Pf) : ∀ f i, allFrom l f i = 0 → l.length ≤ i + f → ∀ j, i ≤ j → j < l.length → chkE (l.getD j pf0) = 0 ∧ (l.take j).any (fun q => decide (q.id = (l.getD j pf0).id)) = false := by
  intro f
  induction f with
  | zero => intro i _ h j h1 h2; omega
  | succ f ih =>
    intro i h hl j h1 h2
    rw [allFrom_step l f i (by omega)] at h
    by_cases hc : chkE (l.getD i pf0) = 0
    · rw [if_neg (by simp only [hc]; decide)] at h
      split at h
      · exact absurd h (by decide)
      · rename_i ha
        by_cases hj : j = i
        · rw [hj]; exact ⟨hc, by simpa using ha⟩
        · exact ih (i + 1) h (by omega) j (by omega) h2
    · rw [if_pos hc] at h
      exact absurd h hc
theorem allE_ids {l : List Pf} (h : allE l = 0) : l.length ≤ 64 ∧ ∀ j, j < l.length → chkE (l.getD j pf0) = 0 ∧ (l.take j).any (fun q => decide (q.id = (l.getD j pf0).id)) = false := by
  unfold allE at h
  split at h
  · exact absurd h (by decide)
  · exact ⟨by omega, fun j hj => allFrom_ids l _ 0 h (by omega) j (by omega) hj⟩
theorem docsL_cons (p : Pf) (l : List Pf) : docsL (p :: l) = docL p ++ docsL l := rfl
theorem read_all {l : List Pf} (hp : ∀ p ∈ l, Prs p) (hu : ∀ j, j < l.length → (l.take j).any (fun q => decide (q.id = (l.getD j pf0).id)) = false) (h64 : l.length ≤ 64) :
    ∀ (m i : Nat) (k n : Int), l.length - i = m → i ≤ l.length → (k = -1 ∨ 5 ≤ k) → readL (lnE (docsL (l.drop i))) ⟨l.take i, k⟩ n = (l, 0, 0) := by
  intro m
  induction m with
  | zero =>
    intro i k n hm hi hk
    have : i = l.length := by omega
    subst this
    rw [List.drop_length, List.take_length]
    show readL (lnE []) ⟨l, k⟩ n = _
    have hmay : mayE ⟨l, k⟩ = true := by unfold mayE; rcases hk with h | h <;> simp [h]
    rw [(lnE_nil_iff []).2 rfl, readL, if_pos hmay]
  | succ m ih =>
    intro i k n hm hi hk
    have hlt : i < l.length := by omega
    have hd : l.drop i = l.getD i pf0 :: l.drop (i + 1) := by
      rw [List.drop_eq_getElem_cons hlt, List.getD_eq_getElem?_getD, List.getElem?_eq_getElem hlt, Option.getD_some]
    have hpi := hp _ (memPf hlt)
    rw [hd, docsL_cons, lnE_doc (ck0 hpi.ck), read_doc hpi hk (hu i hlt) (by rw [List.length_take]; omega), ← take_snocPf l i hlt]
    exact ih (i + 1) _ _ (by omega) (by omega) (kEnd_may _)
/-- What Format writes Parse reads. -/
theorem parse_docs {l : List Pf} (h : fmtE l = 0) (hp : ∀ p ∈ l, Prs p) : parseT (docsL l) = (l, 0, 0) := by
  unfold fmtE at h
  split at h
  · rename_i h1; exact absurd h h1
  rename_i h1
  split at h
  · exact absurd h (by decide)
  rename_i h2
  obtain ⟨h64, hj⟩ := allE_ids (by simpa using h1)
  unfold parseT
  rw [if_neg h2]
  have := read_all hp (fun j hl => (hj j hl).2) h64 l.length 0 (-1) 0 (by omega) (by omega) (Or.inl rfl)
  simpa using this
end Go.Proofs.YtogciehmdlfkfaaGreatDoor
