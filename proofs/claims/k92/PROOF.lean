import PyProof.Rows.All
import Wide.All
import OpenK.AllK
import Wide.FinOn
import KE.IntTextText
import HandS.ForMost
import HandS.Wide
import HandS.Walk
import HandS.StrMore
import HandS.IsInst
import HandS.Conv
import HandS.RaiseMore
import HandS.EndBits
import HandS.ForExc
import HandS.ExcInit
import HandS.Zip
import HandS.FStr
import HandS.TupSets
import KE.KeyNested
import HandS.ExcField
import HandS.CallLocal
import HandS.CallSlots
import KE.KExcIs
import PyProof.ReprRoads
import PyProof.Rows.StrItems
import HandS.Style
import HandS.TupAny
import PyProof.StrBlock2
import HandS.SortOrd
import KE.LtSeq
import KE.LtData
import KE.KDictKeyed
import KE.KDictCopyH
import KE.KDictSum
import HandS.TryOnly
import PySem.Challenge.RW_sourceback_k92_texts_that_are_none
set_option Elab.async false
set_option linter.all false
set_option maxRecDepth 100000
namespace K2
/-! The tokens of a text, by its signs' numbers. -/

def span (p : Nat → Bool) (l : List Nat) : Nat := (l.takeWhile p).length
theorem span_le (p : Nat → Bool) (l : List Nat) : span p l ≤ l.length := (List.takeWhile_sublist p).length_le
theorem span_nil (p : Nat → Bool) : span p [] = 0 := rfl
theorem span_pos {p : Nat → Bool} {c : Nat} {r : List Nat} (h : p c = true) : span p (c :: r) = span p r + 1 := by
  unfold span
  rw [List.takeWhile_cons, if_pos h]
  rfl
theorem span_neg {p : Nat → Bool} {c : Nat} {r : List Nat} (h : p c = false) : span p (c :: r) = 0 := by
  unfold span
  rw [List.takeWhile_cons, if_neg (by rw [h]; exact Bool.false_ne_true)]
  rfl
theorem span_get {p : Nat → Bool} : ∀ {l : List Nat} {i : Nat} {c : Nat}, l[i]? = some c → i < span p l → p c = true
  | [], _, _, h, _ => by simp at h
  | x :: r, i, c, h, lt => by
    cases hx : p x with
    | false =>
      rw [span_neg hx] at lt
      omega
    | true =>
      rw [span_pos hx] at lt
      cases i with
      | zero =>
        cases h
        exact hx
      | succ i => exact span_get (l := r) h (by omega)
theorem span_end {p : Nat → Bool} : ∀ {l : List Nat} {c : Nat}, l[span p l]? = some c → p c = false
  | [], _, h => by simp at h
  | x :: r, c, h => by
    cases hx : p x with
    | false =>
      rw [span_neg hx] at h
      cases h
      exact hx
    | true =>
      rw [span_pos hx] at h
      exact span_end (l := r) h
theorem span_congr {p q : Nat → Bool} : ∀ {l : List Nat}, (∀ c ∈ l, p c = q c) → span p l = span q l
  | [], _ => rfl
  | x :: r, h => by
    have hx := h x List.mem_cons_self
    have hr := span_congr (l := r) fun c hc => h c (List.mem_cons_of_mem _ hc)
    cases e : p x with
    | false => rw [span_neg e, span_neg (hx ▸ e)]
    | true => rw [span_pos e, span_pos (hx ▸ e), hr]
/-- what runs on behind a part of its own kind -/
theorem span_app {p : Nat → Bool} : ∀ {a b : List Nat}, (∀ c ∈ a, p c = true) → span p (a ++ b) = a.length + span p b
  | [], b, _ => by simp
  | x :: r, b, h => by
    rw [List.cons_append, span_pos (h x List.mem_cons_self), span_app fun c hc => h c (List.mem_cons_of_mem _ hc), List.length_cons]
    omega

def isLet (c : Nat) : Bool := decide (97 ≤ c) && decide (c ≤ 122)
def isDig (c : Nat) : Bool := decide (48 ≤ c) && decide (c ≤ 57)
/-- { } [ ] ( ) : . , = + - * -/
def signs : List Nat := [123, 125, 91, 93, 40, 41, 58, 46, 44, 61, 43, 45, 42]
def isSign (c : Nat) : Bool := signs.contains c
def isIn (c : Nat) : Bool := decide (32 ≤ c) && decide (c ≤ 126) && decide (c ≠ 34) && decide (c ≠ 92)
def isGap (c : Nat) : Bool := decide (c = 32) || decide (c = 10)
def noFeed (c : Nat) : Bool := decide (c ≠ 10)

/-- how many signs the gap ahead has -/
def skip (l : List Nat) : Nat :=
  match l with
  | [] => 0
  | c :: r => if isGap c = true then 1 + skip r else if c = 35 then 1 + span noFeed r + skip (r.drop (span noFeed r)) else 0
termination_by l.length
decreasing_by
  all_goals simp only [List.length_cons, List.length_drop]; omega

theorem skip_nil : skip [] = 0 := by rw [skip]
theorem skip_gap {c : Nat} {r : List Nat} (h : isGap c = true) : skip (c :: r) = 1 + skip r := by rw [skip, if_pos h]
theorem skip_hash (r : List Nat) : skip (35 :: r) = 1 + span noFeed r + skip (r.drop (span noFeed r)) := by
  rw [skip, if_neg (by decide), if_pos rfl]
theorem skip_none {c : Nat} {r : List Nat} (h : isGap c = false) (n : c ≠ 35) : skip (c :: r) = 0 := by
  rw [skip, if_neg (by rw [h]; exact Bool.false_ne_true), if_neg n]
theorem skip_le : ∀ (n : Nat) (l : List Nat), l.length ≤ n → skip l ≤ l.length
  | _, [], _ => by rw [skip_nil]; exact Nat.le_refl 0
  | 0, c :: r, h => by simp at h
  | n + 1, c :: r, h => by
    have hr : r.length ≤ n := by simpa using h
    rw [List.length_cons]
    by_cases g : isGap c = true
    · rw [skip_gap g]
      have := skip_le n r hr
      omega
    · by_cases e : c = 35
      · subst e
        rw [skip_hash]
        have h1 := span_le noFeed r
        have h2 := skip_le n (r.drop (span noFeed r)) (by rw [List.length_drop]; omega)
        rw [List.length_drop] at h2
        omega
      · rw [skip_none (Bool.eq_false_iff.mpr g) e]
        exact Nat.zero_le _
theorem skip_len (l : List Nat) : skip l ≤ l.length := skip_le l.length l (Nat.le_refl _)

/-- how many signs the token has that comes next; 0 if there is none -/
def tokL : List Nat → Nat
  | [] => 0
  | c :: r => if isSign c = true then 1 else if isLet c = true then span isLet (c :: r) else if isDig c = true then (if c = 48 ∧ 1 < span isDig (c :: r) then 0 else span isDig (c :: r))
    else if c = 34 then (if r[span isIn r]? = some 34 ∧ span isIn r ≤ 60 then span isIn r + 2 else 0) else 0
theorem tokL_cons (c : Nat) (r : List Nat) : tokL (c :: r) = if isSign c = true then 1 else if isLet c = true then span isLet (c :: r) else if isDig c = true then (if c = 48 ∧ 1 < span isDig (c :: r) then 0 else span isDig (c :: r))
    else if c = 34 then (if r[span isIn r]? = some 34 ∧ span isIn r ≤ 60 then span isIn r + 2 else 0) else 0 := rfl
theorem tokL_le : ∀ (l : List Nat), tokL l ≤ l.length
  | [] => Nat.le_refl 0
  | c :: r => by
    have h1 := span_le isLet (c :: r)
    have h2 := span_le isDig (c :: r)
    rw [tokL_cons]
    split
    · simp
    · split
      · exact h1
      · split
        · split
          · exact Nat.zero_le _
          · exact h2
        · split
          · split
            · next h =>
              have := (List.getElem?_eq_some_iff.mp h.1).1
              rw [List.length_cons]
              omega
            · exact Nat.zero_le _
          · exact Nat.zero_le _

/-- all tokens, with their indexes; it ends where none begins -/
def scan (pos : Nat) (l : List Nat) : List (Nat × List Nat) :=
  if h : tokL (l.drop (skip l)) = 0 then [] else
    (pos + skip l, (l.drop (skip l)).take (tokL (l.drop (skip l)))) :: scan (pos + skip l + tokL (l.drop (skip l))) ((l.drop (skip l)).drop (tokL (l.drop (skip l))))
termination_by l.length
decreasing_by
  have h1 := tokL_le (l.drop (skip l))
  simp only [List.length_drop] at h1 ⊢
  omega
/-- nothing stands in the text that is no token and no gap -/
def clean (l : List Nat) : Bool :=
  if h : tokL (l.drop (skip l)) = 0 then decide (skip l = l.length) else clean ((l.drop (skip l)).drop (tokL (l.drop (skip l))))
termination_by l.length
decreasing_by
  have h1 := tokL_le (l.drop (skip l))
  simp only [List.length_drop] at h1 ⊢
  omega

theorem scan_end {pos : Nat} {l : List Nat} (h : tokL (l.drop (skip l)) = 0) : scan pos l = [] := by rw [scan, dif_pos h]
theorem scan_tok {pos : Nat} {l : List Nat} (h : tokL (l.drop (skip l)) ≠ 0) : scan pos l =
    (pos + skip l, (l.drop (skip l)).take (tokL (l.drop (skip l)))) :: scan (pos + skip l + tokL (l.drop (skip l))) ((l.drop (skip l)).drop (tokL (l.drop (skip l)))) := by
  rw [scan, dif_neg h]
theorem clean_end {l : List Nat} (h : tokL (l.drop (skip l)) = 0) : clean l = decide (skip l = l.length) := by rw [clean, dif_pos h]
theorem clean_tok {l : List Nat} (h : tokL (l.drop (skip l)) ≠ 0) : clean l = clean ((l.drop (skip l)).drop (tokL (l.drop (skip l)))) := by rw [clean, dif_neg h]

theorem scan_at {pos : Nat} {l m : List Nat} (e : l.drop (skip l) = m) (h : tokL m ≠ 0) : scan pos l = (pos + skip l, m.take (tokL m)) :: scan (pos + skip l + tokL m) (m.drop (tokL m)) := by
  subst e
  exact scan_tok h
theorem clean_at {l m : List Nat} (e : l.drop (skip l) = m) (h : tokL m ≠ 0) : clean l = clean (m.drop (tokL m)) := by
  subst e
  exact clean_tok h
/-- a gap ahead changes the indexes alone -/
theorem scan_shift {pos k : Nat} {l : List Nat} (h : skip l = k + skip (l.drop k)) : scan pos l = scan (pos + k) (l.drop k) := by
  obtain ⟨m, e1⟩ : ∃ m, l.drop (skip l) = m := ⟨_, rfl⟩
  have e2 : (l.drop k).drop (skip (l.drop k)) = m := by rw [List.drop_drop, ← h, e1]
  by_cases c : tokL m = 0
  · rw [scan_end (by rw [e1]; exact c), scan_end (by rw [e2]; exact c)]
  · have e : pos + (k + skip (l.drop k)) = pos + k + skip (l.drop k) := by omega
    rw [scan_at e1 c, scan_at e2 c, h, e]
theorem clean_shift {k : Nat} {l : List Nat} (h : skip l = k + skip (l.drop k)) (hk : k ≤ l.length) : clean l = clean (l.drop k) := by
  obtain ⟨m, e1⟩ : ∃ m, l.drop (skip l) = m := ⟨_, rfl⟩
  have e2 : (l.drop k).drop (skip (l.drop k)) = m := by rw [List.drop_drop, ← h, e1]
  by_cases c : tokL m = 0
  · rw [clean_end (by rw [e1]; exact c), clean_end (by rw [e2]; exact c), h, List.length_drop]
    by_cases z : k + skip (l.drop k) = l.length
    · rw [decide_eq_true z, decide_eq_true (by omega)]
    · rw [decide_eq_false z]
      exact (decide_eq_false (by omega)).symm
  · rw [clean_at e1 c, clean_at e2 c]

/-- at a sign that is none of a gap the tokens begin -/
theorem scan_here {pos c : Nat} {r : List Nat} (h : isGap c = false) (n : c ≠ 35) (t : tokL (c :: r) ≠ 0) :
    scan pos (c :: r) = (pos, (c :: r).take (tokL (c :: r))) :: scan (pos + tokL (c :: r)) ((c :: r).drop (tokL (c :: r))) := by
  have e := skip_none (r := r) h n
  have z := scan_at (pos := pos) (l := c :: r) (m := c :: r) (by rw [e]; rfl) t
  rw [e, Nat.add_zero] at z
  exact z
theorem clean_here {c : Nat} {r : List Nat} (h : isGap c = false) (n : c ≠ 35) (t : tokL (c :: r) ≠ 0) : clean (c :: r) = clean ((c :: r).drop (tokL (c :: r))) := by
  have e := skip_none (r := r) h n
  exact clean_at (l := c :: r) (m := c :: r) (by rw [e]; rfl) t
theorem clean_tokL {c : Nat} {r : List Nat} (h : isGap c = false) (n : c ≠ 35) (k : clean (c :: r) = true) : tokL (c :: r) ≠ 0 := by
  intro z
  have e := skip_none (r := r) h n
  rw [clean_end (l := c :: r) (by rw [e]; exact z), e] at k
  have := of_decide_eq_true k
  simp at this
theorem scan_nil (pos : Nat) : scan pos [] = [] := scan_end (by rw [skip_nil]; rfl)

theorem tokL_ne {l : List Nat} (h : tokL l ≠ 0) : l ≠ [] := by
  rintro rfl
  exact h rfl
end K2

/-! Texts of edits and plans: read and written, by lists of signs. -/
namespace K9
open K2

inductive D where
  | int (i : Int)
  | str (s : List Nat)
  | tup (ds : List D)

/-! ### numbers -/
def pN (n : Nat) : List Nat := (Nat.toDigits 10 n).map Char.toNat
def pI (i : Int) : List Nat := if i < 0 then 45 :: pN i.natAbs else pN i.natAbs
def digOk (d : List Nat) : Bool := decide (1 ≤ d.length) && decide (d.length ≤ 1000) && !(decide (d.head? = some 48) && decide (d ≠ [48]))
theorem chr_back {c : Nat} (h : c < 128) : (Char.ofNat c).toNat = c := (show ∀ c < 128, (Char.ofNat c).toNat = c by decide) c h
theorem dig_back {d : List Nat} (ha : ∀ c ∈ d, isDig c = true) (ok : digOk d = true) : pN (PySem.NumText.digitsVal d) = d := by
  unfold digOk at ok
  simp only [Bool.and_eq_true, decide_eq_true_eq, Bool.not_eq_true', Bool.and_eq_false_iff, decide_eq_false_iff_not] at ok
  obtain ⟨⟨h1, _⟩, h3⟩ := ok
  have all : PySem.NumText.AllDigits d := fun c hc => by
    have := ha c hc
    unfold isDig at this
    simpa using this
  have e : Nat.toDigits 10 (PySem.NumText.digitsVal d) = d.map Char.ofNat := by
    refine PySem.NumText.toDigits_digitsVal (d.length - 1) d (by omega) all ?_
    cases d with
    | nil => simp at h1
    | cons c r =>
      have hc := all c List.mem_cons_self
      by_cases hz : c = 48
      · subst hz
        rcases h3 with h3 | h3
        · exact absurd rfl h3
        · have h3 := Decidable.not_not.mp h3
          rw [h3]
          exact .inl rfl
      · exact .inr ⟨c, r, rfl, by omega⟩
  unfold pN
  rw [e, List.map_map]
  have : ∀ l : List Nat, PySem.NumText.AllDigits l → l.map (Char.toNat ∘ Char.ofNat) = l := by
    intro l
    induction l with
    | nil => intro _; rfl
    | cons c r ih =>
      intro h
      rw [List.map_cons, ih h.tail]
      have := h.head
      show (Char.ofNat c).toNat :: r = c :: r
      rw [chr_back (by omega)]
  exact this d all

/-! ### the reader: what is read, what is left -/
abbrev R (α : Type) := Option (α × List Nat)
def acc (s r : List Nat) : Option (List Nat) := if s.isPrefixOf r = true then some (r.drop s.length) else none
theorem acc_some {s r r' : List Nat} (h : acc s r = some r') : r = s ++ r' := by
  unfold acc at h
  split at h
  · next c =>
    cases h
    obtain ⟨t, ht⟩ := List.isPrefixOf_iff_prefix.mp c
    rw [← ht, List.drop_left]
  · cases h
def shut : List (List Nat) := [[105, 109, 112, 111, 114, 116], [116, 101, 109, 112, 108, 97, 116, 101], [108, 105, 115, 116], [100, 111, 99, 117, 109, 101, 110, 116], [108, 101, 116], [110, 101, 119], [102, 111, 114], [105, 110], [119, 104, 101, 114, 101], [103, 105, 118, 101], [105, 102], [116, 104, 101, 110], [101, 108, 115, 101]]
def nameOk (s : List Nat) : Bool := decide (1 ≤ s.length) && decide (s.length ≤ 12) && s.all isLet && !shut.contains s
def rWord (r : List Nat) : List Nat × List Nat := (r.takeWhile isLet, r.dropWhile isLet)
theorem rWord_eq (r : List Nat) : r = (rWord r).1 ++ (rWord r).2 := (List.takeWhile_append_dropWhile (p := isLet) (l := r)).symm
def rName (r : List Nat) : R (List Nat) := if nameOk (rWord r).1 = true then some (rWord r) else none
theorem rName_some {r s r' : List Nat} (h : rName r = some (s, r')) : r = s ++ r' ∧ nameOk s = true := by
  unfold rName at h
  split at h
  · next c =>
    have e := Option.some.inj h
    rw [e] at c
    exact ⟨by have := rWord_eq r; rw [e] at this; exact this, c⟩
  · cases h
def rNum (r : List Nat) : R Nat := if digOk (r.takeWhile isDig) = true then some (PySem.NumText.digitsVal (r.takeWhile isDig), r.dropWhile isDig) else none
theorem mem_takeWhile {p : Nat → Bool} : ∀ {l : List Nat} {c : Nat}, c ∈ l.takeWhile p → p c = true
  | [], c, h => by simp at h
  | a :: r, c, h => by
    rw [List.takeWhile_cons] at h
    split at h
    · next ha =>
      rcases List.mem_cons.mp h with rfl | h
      · exact ha
      · exact mem_takeWhile h
    · simp at h
theorem rNum_some {r r' : List Nat} {n : Nat} (h : rNum r = some (n, r')) : r = pN n ++ r' := by
  unfold rNum at h
  split at h
  · next c =>
    cases h
    rw [dig_back (fun c hc => mem_takeWhile hc) c]
    exact (List.takeWhile_append_dropWhile (p := isDig) (l := r)).symm
  · cases h
def rSer (r : List Nat) : R Nat := (acc [35] r).bind rNum
theorem rSer_some {r r' : List Nat} {n : Nat} (h : rSer r = some (n, r')) : r = 35 :: (pN n ++ r') := by
  unfold rSer at h
  obtain ⟨r1, h1, h2⟩ := Option.bind_eq_some_iff.mp h
  rw [acc_some h1, rNum_some h2]
  rfl
def strOk (s : List Nat) : Bool := decide (s.length ≤ 60) && s.all isIn
/-- a string behind its first quote -/
def rQuo (r : List Nat) : R (List Nat) := if decide ((r.takeWhile isIn).length ≤ 60) && decide ((r.dropWhile isIn).head? = some 34) then some (r.takeWhile isIn, (r.dropWhile isIn).drop 1) else none
theorem rQuo_some {r s r' : List Nat} (h : rQuo r = some (s, r')) : r = s ++ 34 :: r' ∧ strOk s = true := by
  unfold rQuo at h
  split at h
  · next c =>
    simp only [Bool.and_eq_true, decide_eq_true_eq] at c
    cases h
    refine ⟨?_, ?_⟩
    · have e := (List.takeWhile_append_dropWhile (p := isIn) (l := r)).symm
      cases hd : r.dropWhile isIn with
      | nil => rw [hd] at c; cases c.2
      | cons a t =>
        rw [hd] at e c
        have := Option.some.inj c.2
        subst this
        exact e
    · unfold strOk
      simp only [Bool.and_eq_true, decide_eq_true_eq, List.all_eq_true]
      exact ⟨c.1, fun x hx => mem_takeWhile hx⟩
  · cases h
def rLit (r : List Nat) : R D := match acc [34] r with
  | some r1 => (rQuo r1).map fun x => (.str x.1, x.2)
  | none => match acc [45] r with
    | none => (rNum r).map fun x => (.int (x.1 : Int), x.2)
    | some r1 => if (acc [48] r1).isSome then none else (rNum r1).map fun x => (.int (-(x.1 : Int)), x.2)
def pLit : D → List Nat
  | .int i => pI i
  | .str s => 34 :: (s ++ [34])
  | .tup _ => []
def LitOk : D → Prop
  | .int _ => True
  | .str s => strOk s = true
  | .tup _ => False
theorem pI_nat (n : Nat) : pI (n : Int) = pN n := by
  unfold pI
  rw [if_neg (by omega), Int.natAbs_natCast]
theorem pN_zero : pN 0 = [48] := by decide
theorem rLit_some {r r' : List Nat} {d : D} (h : rLit r = some (d, r')) : r = pLit d ++ r' ∧ LitOk d := by
  unfold rLit at h
  split at h
  · next r1 e =>
    obtain ⟨⟨s, r2⟩, h1, h2⟩ := Option.map_eq_some_iff.mp h
    cases h2
    obtain ⟨e1, ok⟩ := rQuo_some h1
    refine ⟨?_, ok⟩
    rw [acc_some e, e1]
    simp [pLit]
  · split at h
    · obtain ⟨⟨n, r2⟩, h1, h2⟩ := Option.map_eq_some_iff.mp h
      cases h2
      refine ⟨?_, trivial⟩
      show r = pI _ ++ _
      rw [pI_nat]
      exact rNum_some h1
    · next r1 e =>
      split at h
      · cases h
      · next c =>
        obtain ⟨⟨n, r2⟩, h1, h2⟩ := Option.map_eq_some_iff.mp h
        cases h2
        refine ⟨?_, trivial⟩
        have e1 := rNum_some h1
        have n0 : n ≠ 0 := by
          rintro rfl
          rw [pN_zero] at e1
          refine c ?_
          rw [e1]
          rfl
        show r = pI _ ++ _
        unfold pI
        rw [if_pos (by omega), Int.natAbs_neg, Int.natAbs_natCast, acc_some e, e1]
        rfl

/-! ### paths, places, spots -/
def pPart : D → List Nat
  | .str s => s
  | .int i => 35 :: pI i
  | .tup _ => []
/-- the parts behind the first one -/
def pMore : List D → List Nat
  | [] => []
  | d :: r => 46 :: (pPart d ++ pMore r)
def pPath : List D → List Nat
  | [] => []
  | d :: r => pPart d ++ pMore r
def rPart (stars : Bool) (r : List Nat) : R D := if stars && (acc [42] r).isSome then (acc [42] r).map fun r1 => (.str [42], r1) else
  if (acc [35] r).isSome then (rSer r).map fun x => (.int (x.1 : Int), x.2) else (rName r).map fun x => (.str x.1, x.2)
theorem rPart_some {st : Bool} {r r' : List Nat} {d : D} (h : rPart st r = some (d, r')) : r = pPart d ++ r' := by
  unfold rPart at h
  split at h
  · obtain ⟨r1, h1, h2⟩ := Option.map_eq_some_iff.mp h
    cases h2
    exact acc_some h1
  · split at h
    · obtain ⟨⟨n, r2⟩, h1, h2⟩ := Option.map_eq_some_iff.mp h
      cases h2
      show r = 35 :: pI _ ++ _
      rw [pI_nat, rSer_some h1]
      rfl
    · obtain ⟨⟨s, r2⟩, h1, h2⟩ := Option.map_eq_some_iff.mp h
      cases h2
      exact (rName_some h1).1
/-- parts behind points, as many as there are -/
def rMore (st : Bool) : Nat → List Nat → R (List D)
  | 0, r => some ([], r)
  | n + 1, r => match acc [46] r with
    | none => some ([], r)
    | some r1 => (rPart st r1).bind fun x => (rMore st n x.2).map fun y => (x.1 :: y.1, y.2)
theorem rMore_some {st : Bool} : ∀ {n : Nat} {r r' : List Nat} {ds : List D}, rMore st n r = some (ds, r') → r = pMore ds ++ r'
  | 0, r, r', ds, h => by
    cases h
    rfl
  | n + 1, r, r', ds, h => by
    unfold rMore at h
    split at h
    · cases h
      rfl
    · next r1 e =>
      obtain ⟨⟨d, r2⟩, h1, h2⟩ := Option.bind_eq_some_iff.mp h
      obtain ⟨⟨es, r3⟩, h3, h4⟩ := Option.map_eq_some_iff.mp h2
      cases h4
      have e3 := rMore_some h3
      simp only at e3
      rw [acc_some e, rPart_some h1, e3]
      simp [pMore]
def rPath (st : Bool) (r : List Nat) : R (List D) := (rPart st r).bind fun x => (rMore st x.2.length x.2).map fun y => (x.1 :: y.1, y.2)
theorem rPath_some {st : Bool} {r r' : List Nat} {ds : List D} (h : rPath st r = some (ds, r')) : r = pPath ds ++ r' ∧ ds ≠ [] := by
  unfold rPath at h
  obtain ⟨⟨d, r2⟩, h1, h2⟩ := Option.bind_eq_some_iff.mp h
  obtain ⟨⟨es, r3⟩, h3, h4⟩ := Option.map_eq_some_iff.mp h2
  cases h4
  refine ⟨?_, fun z => nomatch z⟩
  have e3 := rMore_some h3
  simp only at e3
  rw [rPart_some h1, e3]
  simp [pPath]
def rPlace (r : List Nat) : R D := (rName r).bind fun f => (acc [47] f.2).bind fun r1 => (rPath false r1).map fun p => (.tup [.str f.1, .tup p.1], p.2)
def pPlace : D → List Nat
  | .tup [.str f, .tup p] => f ++ 47 :: pPath p
  | _ => []
theorem rPlace_some {r r' : List Nat} {d : D} (h : rPlace r = some (d, r')) : r = pPlace d ++ r' ∧ ∃ f p, d = .tup [.str f, .tup p] ∧ p ≠ [] := by
  unfold rPlace at h
  obtain ⟨⟨f, r1⟩, h1, h⟩ := Option.bind_eq_some_iff.mp h
  obtain ⟨r2, h2, h⟩ := Option.bind_eq_some_iff.mp h
  obtain ⟨⟨p, r3⟩, h3, h4⟩ := Option.map_eq_some_iff.mp h
  cases h4
  obtain ⟨e3, np⟩ := rPath_some h3
  refine ⟨?_, f, p, rfl, np⟩
  have e1 := (rName_some h1).1
  have e2 := acc_some h2
  simp only at e1 e2
  rw [e1, e2, e3]
  show f ++ 47 :: (pPath p ++ _) = (f ++ 47 :: pPath p) ++ _
  simp
def rSpot (r : List Nat) : R D := (rName r).bind fun f => (acc [47] f.2).bind fun r1 =>
  (if (acc [47] r1).isSome then some ([], r1) else rName r1).bind fun o => (acc [47] o.2).bind fun r2 => (rPath true r2).map fun p => (.tup [.str f.1, .str o.1, .tup p.1], p.2)
def pSpot : D → List Nat
  | .tup [.str f, .str o, .tup p] => f ++ 47 :: (o ++ 47 :: pPath p)
  | _ => []
theorem rSpot_some {r r' : List Nat} {d : D} (h : rSpot r = some (d, r')) : r = pSpot d ++ r' ∧ ∃ f o p, d = .tup [.str f, .str o, .tup p] ∧ p ≠ [] := by
  unfold rSpot at h
  obtain ⟨⟨f, r1⟩, h1, h⟩ := Option.bind_eq_some_iff.mp h
  obtain ⟨r2, h2, h⟩ := Option.bind_eq_some_iff.mp h
  obtain ⟨⟨o, r3⟩, h3, h⟩ := Option.bind_eq_some_iff.mp h
  obtain ⟨r4, h4, h⟩ := Option.bind_eq_some_iff.mp h
  obtain ⟨⟨p, r5⟩, h5, h6⟩ := Option.map_eq_some_iff.mp h
  cases h6
  obtain ⟨e5, np⟩ := rPath_some h5
  refine ⟨?_, f, o, p, rfl, np⟩
  have e1 := (rName_some h1).1
  have e2 := acc_some h2
  have e4 := acc_some h4
  have e3 : r2 = o ++ r3 := by
    split at h3
    · cases h3
      rfl
    · exact (rName_some h3).1
  simp only at e1 e2 e3 e4
  rw [e1, e2, e3, e4, e5]
  show f ++ 47 :: (o ++ 47 :: (pPath p ++ _)) = (f ++ 47 :: (o ++ 47 :: pPath p)) ++ _
  simp
end K9

/-! Records, rows, steps, edits. -/
namespace K9
open K2

/-- a tuple of pairs that begin with a text -/
def recB : List D → Bool
  | .tup (.str _ :: _) :: _ => true
  | _ => false
def pNm : D → List Nat
  | .str s => s
  | _ => []
def pNo : D → List Nat
  | .int i => pI i
  | _ => []
mutual
def pWorth : D → List Nat
  | .int i => pI i
  | .str s => 34 :: (s ++ [34])
  | .tup ds => if recB ds = true then 123 :: (pPairs ds ++ [32, 125]) else 91 :: (pRows ds ++ [32, 93])
def pPairs : List D → List Nat
  | [] => []
  | d :: r => pPair d ++ pPairs r
def pPair : D → List Nat
  | .tup (a :: v :: _) => 32 :: (pNm a ++ 58 :: 32 :: pWorth v)
  | _ => []
def pRows : List D → List Nat
  | [] => []
  | d :: r => pRow d ++ pRows r
def pRow : D → List Nat
  | .tup (a :: .tup es :: _) => 32 :: 35 :: (pNo a ++ 32 :: 123 :: (pPairs es ++ [32, 125]))
  | _ => []
end
def pRec (ds : List D) : List Nat := 123 :: (pPairs ds ++ [32, 125])

/-- what a field of a record may hold, over records as P tells -/
def WOk (P : List D → Prop) (v : D) : Prop := LitOk v ∨ (∃ ds, v = .tup ds ∧ ds ≠ [] ∧ P ds) ∨ ∃ ds, v = .tup ds ∧ ∀ d ∈ ds, ∃ (i : Nat) (es : List D), d = .tup [.int i, .tup es] ∧ P es
/-- records at most n deep -/
def RecOk : Nat → List D → Prop
  | 0, _ => False
  | n + 1, ds => ∀ d ∈ ds, ∃ s v, d = .tup [.str s, v] ∧ nameOk s = true ∧ WOk (RecOk n) v

section
variable (rec : List Nat → R (List D))
def rRows : Nat → List Nat → R (List D)
  | 0, r => (acc [32, 93] r).map fun r1 => ([], r1)
  | n + 1, r => match acc [32, 93] r with
    | some r1 => some ([], r1)
    | none => (acc [32] r).bind fun r1 => (rSer r1).bind fun s => (acc [32] s.2).bind fun r2 => (rec r2).bind fun e => (rRows n e.2).map fun y => (.tup [.int (s.1 : Int), .tup e.1] :: y.1, y.2)
def rCont (r : List Nat) : R D := match acc [91] r with
  | some r1 => (rRows rec r1.length r1).map fun x => (.tup x.1, x.2)
  | none => if (acc [123, 32, 125] r).isSome then none else if (acc [123] r).isSome then (rec r).map fun x => (.tup x.1, x.2) else rLit r
def rPairs : Nat → List Nat → R (List D)
  | 0, r => (acc [32, 125] r).map fun r1 => ([], r1)
  | n + 1, r => match acc [32, 125] r with
    | some r1 => some ([], r1)
    | none => (acc [32] r).bind fun r1 => (rName r1).bind fun s => (acc [58, 32] s.2).bind fun r2 => (rCont rec r2).bind fun v => (rPairs n v.2).map fun y => (.tup [.str s.1, v.1] :: y.1, y.2)
end
def rRec : Nat → List Nat → R (List D)
  | 0, _ => none
  | n + 1, r => (acc [123] r).bind fun r1 => rPairs (rRec n) r1.length r1

section
variable {rec : List Nat → R (List D)} {P : List D → Prop} (hrec : ∀ r d r', rec r = some (d, r') → r = pRec d ++ r' ∧ P d)
include hrec
theorem rRows_some : ∀ {n : Nat} {r r' : List Nat} {ds : List D}, rRows rec n r = some (ds, r') → r = pRows ds ++ [32, 93] ++ r' ∧ ∀ d ∈ ds, ∃ (i : Nat) (es : List D), d = .tup [.int i, .tup es] ∧ P es
  | 0, r, r', ds, h => by
    unfold rRows at h
    obtain ⟨r1, h1, h2⟩ := Option.map_eq_some_iff.mp h
    cases h2
    exact ⟨by rw [acc_some h1, pRows]; rfl, fun d q => (List.not_mem_nil q).elim⟩
  | n + 1, r, r', ds, h => by
    unfold rRows at h
    split at h
    · next r1 e =>
      cases h
      exact ⟨by rw [acc_some e, pRows]; rfl, fun d q => (List.not_mem_nil q).elim⟩
    · obtain ⟨r1, h1, h⟩ := Option.bind_eq_some_iff.mp h
      obtain ⟨⟨s, r2⟩, h2, h⟩ := Option.bind_eq_some_iff.mp h
      obtain ⟨r3, h3, h⟩ := Option.bind_eq_some_iff.mp h
      obtain ⟨⟨e, r4⟩, h4, h⟩ := Option.bind_eq_some_iff.mp h
      obtain ⟨⟨y, r5⟩, h5, h6⟩ := Option.map_eq_some_iff.mp h
      cases h6
      obtain ⟨e5, ok⟩ := rRows_some h5
      obtain ⟨e4, okP⟩ := hrec _ _ _ h4
      have e1 := acc_some h1
      have e2 := rSer_some h2
      have e3 := acc_some h3
      simp only at e1 e2 e3 e4 e5
      refine ⟨?_, fun d q => ?_⟩
      · rw [e1, e2, e3, e4, e5]
        simp [pRows, pRow, pNo, pI_nat, pRec]
      · rcases List.mem_cons.mp q with rfl | q
        · exact ⟨s, e, rfl, okP⟩
        · exact ok d q
theorem rCont_some {r r' : List Nat} {v : D} (hne : ∀ d, P d → d ≠ [] → recB d = true) (h0 : ∀ r r', rec r = some ([], r') → (acc [123, 32, 125] r).isSome = true) (h : rCont rec r = some (v, r')) : r = pWorth v ++ r' ∧ WOk P v := by
  unfold rCont at h
  split at h
  · next r1 e =>
    obtain ⟨⟨ds, r2⟩, h1, h2⟩ := Option.map_eq_some_iff.mp h
    cases h2
    obtain ⟨e1, ok⟩ := rRows_some hrec h1
    refine ⟨?_, .inr (.inr ⟨_, rfl, ok⟩)⟩
    have nb : recB ds = false := by
      cases ds with
      | nil => rfl
      | cons d t =>
        obtain ⟨i, es, rfl, _⟩ := ok d List.mem_cons_self
        rfl
    rw [acc_some e, e1]
    simp [pWorth, nb]
  · split at h
    · cases h
    · next c =>
      split at h
      · obtain ⟨⟨ds, r2⟩, h1, h2⟩ := Option.map_eq_some_iff.mp h
        cases h2
        obtain ⟨e1, ok⟩ := hrec _ _ _ h1
        have n0 : ds ≠ [] := by
          rintro rfl
          exact c (h0 _ _ h1)
        refine ⟨?_, .inr (.inl ⟨_, rfl, n0, ok⟩)⟩
        rw [e1]
        simp [pWorth, hne ds ok n0, pRec]
      · obtain ⟨e1, ok⟩ := rLit_some h
        refine ⟨?_, .inl ok⟩
        rw [e1]
        cases v with
        | int i => simp [pWorth, pLit]
        | str s => simp [pWorth, pLit]
        | tup ds => exact ok.elim
theorem rPairs_some (hne : ∀ d, P d → d ≠ [] → recB d = true) (h0 : ∀ r r', rec r = some ([], r') → (acc [123, 32, 125] r).isSome = true) : ∀ {n : Nat} {r r' : List Nat} {ds : List D}, rPairs rec n r = some (ds, r') →
    r = pPairs ds ++ [32, 125] ++ r' ∧ ∀ d ∈ ds, ∃ s v, d = .tup [.str s, v] ∧ nameOk s = true ∧ WOk P v
  | 0, r, r', ds, h => by
    unfold rPairs at h
    obtain ⟨r1, h1, h2⟩ := Option.map_eq_some_iff.mp h
    cases h2
    exact ⟨by rw [acc_some h1, pPairs]; rfl, fun d q => (List.not_mem_nil q).elim⟩
  | n + 1, r, r', ds, h => by
    unfold rPairs at h
    split at h
    · next r1 e =>
      cases h
      exact ⟨by rw [acc_some e, pPairs]; rfl, fun d q => (List.not_mem_nil q).elim⟩
    · obtain ⟨r1, h1, h⟩ := Option.bind_eq_some_iff.mp h
      obtain ⟨⟨s, r2⟩, h2, h⟩ := Option.bind_eq_some_iff.mp h
      obtain ⟨r3, h3, h⟩ := Option.bind_eq_some_iff.mp h
      obtain ⟨⟨v, r4⟩, h4, h⟩ := Option.bind_eq_some_iff.mp h
      obtain ⟨⟨y, r5⟩, h5, h6⟩ := Option.map_eq_some_iff.mp h
      cases h6
      obtain ⟨e5, ok⟩ := rPairs_some hne h0 h5
      obtain ⟨e4, okv⟩ := rCont_some hrec hne h0 h4
      obtain ⟨e2, okn⟩ := rName_some h2
      have e1 := acc_some h1
      have e3 := acc_some h3
      simp only at e1 e2 e3 e4 e5
      refine ⟨?_, fun d q => ?_⟩
      · rw [e1, e2, e3, e4, e5]
        simp [pPairs, pPair, pNm]
      · rcases List.mem_cons.mp q with rfl | q
        · exact ⟨s, v, rfl, okn, okv⟩
        · exact ok d q
end
theorem recOk_b : ∀ {n : Nat} {ds : List D}, RecOk n ds → ds ≠ [] → recB ds = true
  | 0, _, h, _ => h.elim
  | n + 1, [], _, h => absurd rfl h
  | n + 1, d :: t, h, _ => by
    obtain ⟨s, v, rfl, _⟩ := h d List.mem_cons_self
    rfl
theorem rRec_empty : ∀ {n : Nat} {r r' : List Nat}, rRec n r = some ([], r') → (acc [123, 32, 125] r).isSome = true
  | 0, r, r', h => by cases h
  | n + 1, r, r', h => by
    unfold rRec at h
    obtain ⟨r1, h1, h2⟩ := Option.bind_eq_some_iff.mp h
    have e : acc [32, 125] r1 = some r' := by
      revert h2
      generalize r1.length = k
      intro h2
      cases k with
      | zero =>
        unfold rPairs at h2
        obtain ⟨r2, h3, h4⟩ := Option.map_eq_some_iff.mp h2
        cases h4
        exact h3
      | succ k =>
        unfold rPairs at h2
        split at h2
        · next r2 e2 =>
          cases h2
          exact e2
        · obtain ⟨_, _, h2⟩ := Option.bind_eq_some_iff.mp h2
          obtain ⟨_, _, h2⟩ := Option.bind_eq_some_iff.mp h2
          obtain ⟨_, _, h2⟩ := Option.bind_eq_some_iff.mp h2
          obtain ⟨_, _, h2⟩ := Option.bind_eq_some_iff.mp h2
          obtain ⟨_, _, h2⟩ := Option.map_eq_some_iff.mp h2
          cases h2
    rw [acc_some h1, acc_some e]
    rfl
theorem rRec_some : ∀ {n : Nat} {r r' : List Nat} {ds : List D}, rRec n r = some (ds, r') → r = pRec ds ++ r' ∧ RecOk n ds
  | 0, r, r', ds, h => by cases h
  | n + 1, r, r', ds, h => by
    unfold rRec at h
    obtain ⟨r1, h1, h2⟩ := Option.bind_eq_some_iff.mp h
    obtain ⟨e2, ok⟩ := rPairs_some (P := RecOk n) (fun r d r' h => rRec_some h) (fun d h n => recOk_b h n) (fun r r' h => rRec_empty h) h2
    refine ⟨?_, ok⟩
    rw [acc_some h1, e2]
    simp [pRec]

/-! ### steps, edits -/
def txt (s : String) : List Nat := s.toList.map Char.toNat
/-- a step behind its word -/
def rStep (r : List Nat) : R D :=
  (acc [32] (rWord r).2).bind fun r1 => (rPlace r1).bind fun p => (acc [32] p.2).bind fun r2 =>
    if (rWord r).1 = txt "set" then (rLit r2).map fun x => (.tup [.str (txt "set"), p.1, x.1], x.2)
    else if (rWord r).1 = txt "take" then (rSer r2).map fun x => (.tup [.str (txt "take"), p.1, .int (x.1 : Int)], x.2)
    else if (rWord r).1 = txt "put" then (rNum r2).bind fun i => (acc [32] i.2).bind fun r3 => (rSer r3).bind fun s => (acc [32] s.2).bind fun r4 => (rRec 40 r4).map fun x =>
      (.tup [.str (txt "put"), p.1, .int (i.1 : Int), .int (s.1 : Int), .tup x.1], x.2)
    else if (rWord r).1 = txt "carry" then (rSer r2).bind fun s => (acc [32] s.2).bind fun r3 => (rPlace r3).bind fun o => (acc [32] o.2).bind fun r4 => (rNum r4).map fun x =>
      (.tup [.str (txt "carry"), p.1, .int (s.1 : Int), o.1, .int (x.1 : Int)], x.2)
    else none
def pStep : D → List Nat
  | .tup [.str w, p, v] => w ++ 32 :: (pPlace p ++ 32 :: (if w = txt "set" then pLit v else 35 :: pNo v))
  | .tup [.str w, p, a, b, c] => w ++ 32 :: (pPlace p ++ 32 :: (if w = txt "put" then pNo a ++ 32 :: 35 :: (pNo b ++ 32 :: (match c with | .tup ds => pRec ds | _ => [])) else 35 :: (pNo a ++ 32 :: (pPlace b ++ 32 :: pNo c))))
  | _ => []
def PlOk (d : D) : Prop := ∃ f p, d = .tup [.str f, .tup p] ∧ p ≠ []
inductive StepOk : D → Prop
  | set (p v : D) : PlOk p → LitOk v → StepOk (.tup [.str (txt "set"), p, v])
  | take (p : D) (n : Nat) : PlOk p → StepOk (.tup [.str (txt "take"), p, .int n])
  | put (p : D) (i s : Nat) (ds : List D) : PlOk p → RecOk 40 ds → StepOk (.tup [.str (txt "put"), p, .int i, .int s, .tup ds])
  | carry (p o : D) (s i : Nat) : PlOk p → PlOk o → StepOk (.tup [.str (txt "carry"), p, .int s, o, .int i])
theorem rStep_some {r r' : List Nat} {d : D} (h : rStep r = some (d, r')) : r = pStep d ++ r' ∧ StepOk d := by
  unfold rStep at h
  obtain ⟨r1, h1, h⟩ := Option.bind_eq_some_iff.mp h
  obtain ⟨⟨p, r2⟩, h2, h⟩ := Option.bind_eq_some_iff.mp h
  obtain ⟨r3, h3, h⟩ := Option.bind_eq_some_iff.mp h
  have e0 := rWord_eq r
  have e1 := acc_some h1
  obtain ⟨e2, okp⟩ := rPlace_some h2
  have e3 := acc_some h3
  simp only at e2 e3
  split at h
  · next c =>
    obtain ⟨⟨v, r4⟩, h4, h5⟩ := Option.map_eq_some_iff.mp h
    cases h5
    obtain ⟨e4, okv⟩ := rLit_some h4
    refine ⟨?_, .set p v okp okv⟩
    rw [e0, e1, e2, e3, e4, c]
    simp [pStep]
  · split at h
    · next _ c =>
      obtain ⟨⟨v, r4⟩, h4, h5⟩ := Option.map_eq_some_iff.mp h
      cases h5
      have e4 := rSer_some h4
      refine ⟨?_, .take p v okp⟩
      rw [e0, e1, e2, e3, e4, c]
      simp [pStep, pNo, pI_nat, show txt "take" ≠ txt "set" by decide]
    · split at h
      · next _ _ c =>
        obtain ⟨⟨i, r4⟩, h4, h⟩ := Option.bind_eq_some_iff.mp h
        obtain ⟨r5, h5, h⟩ := Option.bind_eq_some_iff.mp h
        obtain ⟨⟨s, r6⟩, h6, h⟩ := Option.bind_eq_some_iff.mp h
        obtain ⟨r7, h7, h⟩ := Option.bind_eq_some_iff.mp h
        obtain ⟨⟨x, r8⟩, h8, h9⟩ := Option.map_eq_some_iff.mp h
        cases h9
        have e4 := rNum_some h4
        have e5 := acc_some h5
        have e6 := rSer_some h6
        have e7 := acc_some h7
        obtain ⟨e8, okr⟩ := rRec_some h8
        simp only at e5 e7
        refine ⟨?_, .put p i s x okp okr⟩
        rw [e0, e1, e2, e3, e4, e5, e6, e7, e8, c]
        simp [pStep, pNo, pI_nat]
      · split at h
        · next _ _ _ c =>
          obtain ⟨⟨s, r4⟩, h4, h⟩ := Option.bind_eq_some_iff.mp h
          obtain ⟨r5, h5, h⟩ := Option.bind_eq_some_iff.mp h
          obtain ⟨⟨o, r6⟩, h6, h⟩ := Option.bind_eq_some_iff.mp h
          obtain ⟨r7, h7, h⟩ := Option.bind_eq_some_iff.mp h
          obtain ⟨⟨x, r8⟩, h8, h9⟩ := Option.map_eq_some_iff.mp h
          cases h9
          have e4 := rSer_some h4
          have e5 := acc_some h5
          obtain ⟨e6, oko⟩ := rPlace_some h6
          have e7 := acc_some h7
          have e8 := rNum_some h8
          simp only at e5 e6 e7
          refine ⟨?_, .carry p o s x okp oko⟩
          rw [e0, e1, e2, e3, e4, e5, e6, e7, e8, c]
          simp [pStep, pNo, pI_nat, show txt "carry" ≠ txt "put" by decide]
        · cases h
/-- what stands behind the first one -/
def pEMore : List D → List Nat
  | [] => []
  | d :: r => 59 :: 32 :: (pStep d ++ pEMore r)
def pEdit : List D → List Nat
  | [] => [45]
  | d :: r => pStep d ++ pEMore r
def rEMore : Nat → List Nat → R (List D)
  | 0, r => some ([], r)
  | n + 1, r => match acc [59, 32] r with
    | none => some ([], r)
    | some r1 => (rStep r1).bind fun x => (rEMore n x.2).map fun y => (x.1 :: y.1, y.2)
theorem rEMore_some : ∀ {n : Nat} {r r' : List Nat} {ds : List D}, rEMore n r = some (ds, r') → r = pEMore ds ++ r' ∧ ∀ d ∈ ds, StepOk d
  | 0, r, r', ds, h => by
    cases h
    exact ⟨rfl, fun d q => (List.not_mem_nil q).elim⟩
  | n + 1, r, r', ds, h => by
    unfold rEMore at h
    split at h
    · cases h
      exact ⟨rfl, fun d q => (List.not_mem_nil q).elim⟩
    · next r1 e =>
      obtain ⟨⟨d, r2⟩, h1, h2⟩ := Option.bind_eq_some_iff.mp h
      obtain ⟨⟨es, r3⟩, h3, h4⟩ := Option.map_eq_some_iff.mp h2
      cases h4
      obtain ⟨e3, ok3⟩ := rEMore_some h3
      obtain ⟨e2, ok2⟩ := rStep_some h1
      simp only at e3
      refine ⟨?_, fun d q => ?_⟩
      · rw [acc_some e, e2, e3]
        simp [pEMore]
      · rcases List.mem_cons.mp q with rfl | q
        · exact ok2
        · exact ok3 d q
/-- a whole text of an edit -/
def rEdit (r : List Nat) : Option (List D) := match acc [45] r with
  | some r1 => if r1 = [] then some [] else none
  | none => (rStep r).bind fun x => (rEMore x.2.length x.2).bind fun y => if y.2 = [] then some (x.1 :: y.1) else none
theorem rEdit_some {r : List Nat} {ds : List D} (h : rEdit r = some ds) : r = pEdit ds ∧ ∀ d ∈ ds, StepOk d := by
  unfold rEdit at h
  split at h
  · next r1 e =>
    split at h
    · next c =>
      cases h
      rw [acc_some e, c]
      exact ⟨rfl, fun d q => (List.not_mem_nil q).elim⟩
    · cases h
  · obtain ⟨⟨d, r2⟩, h1, h⟩ := Option.bind_eq_some_iff.mp h
    obtain ⟨⟨es, r3⟩, h2, h⟩ := Option.bind_eq_some_iff.mp h
    split at h
    · next c =>
      cases h
      obtain ⟨e1, ok1⟩ := rStep_some h1
      obtain ⟨e2, ok2⟩ := rEMore_some h2
      simp only at c e2
      subst c
      refine ⟨?_, fun d q => ?_⟩
      · rw [e1, e2]
        simp [pEdit]
      · rcases List.mem_cons.mp q with rfl | q
        · exact ok1
        · exact ok2 d q
    · cases h
end K9

/-! Deeds, plans. -/
namespace K9
open K2

/-! ### data alike, data in order -/
mutual
def D.beq : D → D → Bool
  | .int a, .int b => decide (a = b)
  | .str a, .str b => decide (a = b)
  | .tup a, .tup b => D.beqs a b
  | _, _ => false
def D.beqs : List D → List D → Bool
  | [], [] => true
  | a :: r, b :: t => D.beq a b && D.beqs r t
  | _, _ => false
end
mutual
theorem D.beq_iff : ∀ {a b : D}, D.beq a b = true ↔ a = b
  | .int a, .int b => by simp [D.beq]
  | .str a, .str b => by simp [D.beq]
  | .tup a, .tup b => by rw [D.beq, D.beqs_iff]; simp
  | .int _, .str _ => by simp [D.beq]
  | .int _, .tup _ => by simp [D.beq]
  | .str _, .int _ => by simp [D.beq]
  | .str _, .tup _ => by simp [D.beq]
  | .tup _, .int _ => by simp [D.beq]
  | .tup _, .str _ => by simp [D.beq]
theorem D.beqs_iff : ∀ {a b : List D}, D.beqs a b = true ↔ a = b
  | [], [] => by simp [D.beqs]
  | [], _ :: _ => by simp [D.beqs]
  | _ :: _, [] => by simp [D.beqs]
  | a :: r, b :: t => by rw [D.beqs, Bool.and_eq_true, D.beq_iff, D.beqs_iff]; simp
end
instance : DecidableEq D := fun a b => if h : D.beq a b = true then .isTrue (D.beq_iff.mp h) else .isFalse fun e => h (D.beq_iff.mpr e)
def ltL : List Nat → List Nat → Bool
  | [], _ :: _ => true
  | _, [] => false
  | a :: r, b :: t => if a = b then ltL r t else decide (a < b)
mutual
/-- whether the first one of two parts that differ stands ahead -/
def aheadD : D → D → Bool
  | .tup x, .tup y => aheads x y
  | .int i, .int j => decide (i < j)
  | .str s, .str t => ltL s t
  | _, _ => false
def aheads : List D → List D → Bool
  | [], _ :: _ => true
  | _, [] => false
  | a :: r, b :: t => if D.beq a b = true then aheads r t else aheadD a b
end

/-! ### serials, deeds, plans -/
def pSMore : List D → List Nat
  | [] => []
  | d :: r => 32 :: 35 :: (pNo d ++ pSMore r)
def pSers : List D → List Nat
  | [] => [45]
  | d :: r => 35 :: (pNo d ++ pSMore r)
def rSMore : Nat → List Nat → R (List D)
  | 0, r => some ([], r)
  | n + 1, r => if (acc [32, 35] r).isSome then (acc [32] r).bind fun r1 => (rSer r1).bind fun x => (rSMore n x.2).map fun y => (.int (x.1 : Int) :: y.1, y.2) else some ([], r)
def Sers (ds : List D) : Prop := ∀ d ∈ ds, ∃ i : Nat, d = .int i
theorem rSMore_some : ∀ {n : Nat} {r r' : List Nat} {ds : List D}, rSMore n r = some (ds, r') → r = pSMore ds ++ r' ∧ Sers ds
  | 0, r, r', ds, h => by
    cases h
    exact ⟨rfl, fun d q => (List.not_mem_nil q).elim⟩
  | n + 1, r, r', ds, h => by
    unfold rSMore at h
    split at h
    · obtain ⟨r1, h1, h⟩ := Option.bind_eq_some_iff.mp h
      obtain ⟨⟨i, r2⟩, h2, h⟩ := Option.bind_eq_some_iff.mp h
      obtain ⟨⟨es, r3⟩, h3, h4⟩ := Option.map_eq_some_iff.mp h
      cases h4
      obtain ⟨e3, ok⟩ := rSMore_some h3
      have e2 := rSer_some h2
      simp only at e3
      refine ⟨?_, fun d q => ?_⟩
      · rw [acc_some h1, e2, e3]
        simp [pSMore, pNo, pI_nat]
      · rcases List.mem_cons.mp q with rfl | q
        · exact ⟨i, rfl⟩
        · exact ok d q
    · cases h
      exact ⟨rfl, fun d q => (List.not_mem_nil q).elim⟩
def rSers (r : List Nat) : R (List D) := match acc [45] r with
  | some r1 => some ([], r1)
  | none => (rSer r).bind fun x => (rSMore x.2.length x.2).map fun y => (.int (x.1 : Int) :: y.1, y.2)
theorem rSers_some {r r' : List Nat} {ds : List D} (h : rSers r = some (ds, r')) : r = pSers ds ++ r' ∧ Sers ds := by
  unfold rSers at h
  split at h
  · next r1 e =>
    cases h
    exact ⟨by rw [acc_some e]; rfl, fun d q => (List.not_mem_nil q).elim⟩
  · obtain ⟨⟨i, r2⟩, h2, h⟩ := Option.bind_eq_some_iff.mp h
    obtain ⟨⟨es, r3⟩, h3, h4⟩ := Option.map_eq_some_iff.mp h
    cases h4
    obtain ⟨e3, ok⟩ := rSMore_some h3
    have e2 := rSer_some h2
    simp only at e3
    refine ⟨?_, fun d q => ?_⟩
    · rw [e2, e3]
      simp [pSers, pNo, pI_nat]
    · rcases List.mem_cons.mp q with rfl | q
      · exact ⟨i, rfl⟩
      · exact ok d q
def rDeed (r : List Nat) : R D := (acc [32] (rWord r).2).bind fun r1 =>
  if (rWord r).1 = txt "order" then (rName r1).bind fun f => (acc [47] f.2).bind fun r2 => (rName r2).bind fun n => (acc [32] n.2).bind fun r3 => (rSers r3).map fun x => (.tup [.str (txt "order"), .str f.1, .str n.1, .tup x.1], x.2)
  else if (rWord r).1 = txt "gone" then (rSpot r1).map fun s => (.tup [.str (txt "gone"), s.1], s.2)
  else if (rWord r).1 = txt "set" then (rSpot r1).bind fun s => (acc [32] s.2).bind fun r2 => (rLit r2).map fun x => (.tup [.str (txt "set"), s.1, x.1], x.2)
  else none
def pDeed : D → List Nat
  | .tup [.str w, s] => w ++ 32 :: pSpot s
  | .tup [.str w, s, v] => w ++ 32 :: (pSpot s ++ 32 :: pLit v)
  | .tup [.str w, .str f, .str n, .tup ds] => w ++ 32 :: (f ++ 47 :: (n ++ 32 :: pSers ds))
  | _ => []
def SpOk (d : D) : Prop := ∃ f o p, d = .tup [.str f, .str o, .tup p] ∧ p ≠ []
inductive DeedOk : D → Prop
  | order (f n : List Nat) (ds : List D) : nameOk f = true → nameOk n = true → Sers ds → DeedOk (.tup [.str (txt "order"), .str f, .str n, .tup ds])
  | gone (s : D) : SpOk s → DeedOk (.tup [.str (txt "gone"), s])
  | set (s v : D) : SpOk s → LitOk v → DeedOk (.tup [.str (txt "set"), s, v])
theorem rDeed_some {r r' : List Nat} {d : D} (h : rDeed r = some (d, r')) : r = pDeed d ++ r' ∧ DeedOk d := by
  unfold rDeed at h
  obtain ⟨r1, h1, h⟩ := Option.bind_eq_some_iff.mp h
  have e0 := rWord_eq r
  have e1 := acc_some h1
  split at h
  · next c =>
    obtain ⟨⟨f, r2⟩, h2, h⟩ := Option.bind_eq_some_iff.mp h
    obtain ⟨r3, h3, h⟩ := Option.bind_eq_some_iff.mp h
    obtain ⟨⟨n, r4⟩, h4, h⟩ := Option.bind_eq_some_iff.mp h
    obtain ⟨r5, h5, h⟩ := Option.bind_eq_some_iff.mp h
    obtain ⟨⟨x, r6⟩, h6, h7⟩ := Option.map_eq_some_iff.mp h
    cases h7
    obtain ⟨e2, ok2⟩ := rName_some h2
    have e3 := acc_some h3
    obtain ⟨e4, ok4⟩ := rName_some h4
    have e5 := acc_some h5
    obtain ⟨e6, ok6⟩ := rSers_some h6
    simp only at e3 e5
    refine ⟨?_, .order f n x ok2 ok4 ok6⟩
    rw [e0, e1, e2, e3, e4, e5, e6, c]
    simp [pDeed]
  · split at h
    · next _ c =>
      obtain ⟨⟨s, r2⟩, h2, h3⟩ := Option.map_eq_some_iff.mp h
      cases h3
      obtain ⟨e2, ok2⟩ := rSpot_some h2
      refine ⟨?_, .gone s ok2⟩
      rw [e0, e1, e2, c]
      simp [pDeed]
    · split at h
      · next _ _ c =>
        obtain ⟨⟨s, r2⟩, h2, h⟩ := Option.bind_eq_some_iff.mp h
        obtain ⟨r3, h3, h⟩ := Option.bind_eq_some_iff.mp h
        obtain ⟨⟨v, r4⟩, h4, h5⟩ := Option.map_eq_some_iff.mp h
        cases h5
        obtain ⟨e2, ok2⟩ := rSpot_some h2
        have e3 := acc_some h3
        obtain ⟨e4, ok4⟩ := rLit_some h4
        simp only at e3
        refine ⟨?_, .set s v ok2 ok4⟩
        rw [e0, e1, e2, e3, e4, c]
        simp [pDeed]
      · cases h
def pPMore : List D → List Nat
  | [] => []
  | d :: r => 59 :: 32 :: (pDeed d ++ pPMore r)
def pPlan : List D → List Nat
  | [] => [45]
  | d :: r => pDeed d ++ pPMore r
def rPMore : Nat → List Nat → R (List D)
  | 0, r => some ([], r)
  | n + 1, r => match acc [59, 32] r with
    | none => some ([], r)
    | some r1 => (rDeed r1).bind fun x => (rPMore n x.2).map fun y => (x.1 :: y.1, y.2)
theorem rPMore_some : ∀ {n : Nat} {r r' : List Nat} {ds : List D}, rPMore n r = some (ds, r') → r = pPMore ds ++ r' ∧ ∀ d ∈ ds, DeedOk d
  | 0, r, r', ds, h => by
    cases h
    exact ⟨rfl, fun d q => (List.not_mem_nil q).elim⟩
  | n + 1, r, r', ds, h => by
    unfold rPMore at h
    split at h
    · cases h
      exact ⟨rfl, fun d q => (List.not_mem_nil q).elim⟩
    · next r1 e =>
      obtain ⟨⟨d, r2⟩, h1, h2⟩ := Option.bind_eq_some_iff.mp h
      obtain ⟨⟨es, r3⟩, h3, h4⟩ := Option.map_eq_some_iff.mp h2
      cases h4
      obtain ⟨e3, ok3⟩ := rPMore_some h3
      obtain ⟨e2, ok2⟩ := rDeed_some h1
      simp only at e3
      refine ⟨?_, fun d q => ?_⟩
      · rw [acc_some e, e2, e3]
        simp [pPMore]
      · rcases List.mem_cons.mp q with rfl | q
        · exact ok2
        · exact ok3 d q
/-- what a deed is about -/
def about : D → D
  | .tup (.str w :: a :: r) => if w = txt "order" then .tup (a :: r.take 1) else a
  | d => d
def rising : List D → Bool
  | .tup a :: .tup b :: r => aheads a b && rising (.tup b :: r)
  | _ => true
/-- all the text of a plan, the deeds' order apart -/
def rPlan (r : List Nat) : Option (List D) := match acc [45] r with
  | some r1 => if r1 = [] then some [] else none
  | none => (rDeed r).bind fun x => (rPMore x.2.length x.2).bind fun y => if decide ((x.1 :: y.1).map about).Nodup && rising (x.1 :: y.1) && decide (y.2 = []) then some (x.1 :: y.1) else none
theorem rPlan_some {r : List Nat} {ds : List D} (h : rPlan r = some ds) : r = pPlan ds ∧ (∀ d ∈ ds, DeedOk d) ∧ (ds.map about).Nodup := by
  unfold rPlan at h
  split at h
  · next r1 e =>
    split at h
    · next c =>
      cases h
      rw [acc_some e, c]
      exact ⟨rfl, fun d q => (List.not_mem_nil q).elim, List.nodup_nil⟩
    · cases h
  · obtain ⟨⟨d, r2⟩, h1, h⟩ := Option.bind_eq_some_iff.mp h
    obtain ⟨⟨es, r3⟩, h2, h⟩ := Option.bind_eq_some_iff.mp h
    split at h
    · next c =>
      cases h
      simp only [Bool.and_eq_true, decide_eq_true_eq] at c
      obtain ⟨⟨c1, _⟩, c3⟩ := c
      obtain ⟨e1, ok1⟩ := rDeed_some h1
      obtain ⟨e2, ok2⟩ := rPMore_some h2
      simp only at e2
      subst c3
      refine ⟨?_, fun d q => ?_, c1⟩
      · rw [e1, e2]
        simp [pPlan]
      · rcases List.mem_cons.mp q with rfl | q
        · exact ok1
        · exact ok2 d q
    · cases h

/-! ### by hand: texts that are none -/
theorem none_edits : ∀ s ∈ ["", " ", "- ", "--", "set", "set main/a", "set main/a -0", "set main/a 01", "set main/a \"", "set main/a 1 ", "set  main/a 1", "set main/a 1;take main/b #0", "take main/a 0", "take main/a #00", "go",
    "put main/a 0 #0 { a: 1}", "put main/a 0 #0 {}", "put main/a 0 #0 { a: { } }x", "carry main/a #0 main/b"], (rEdit (txt s)).isNone = true := by decide +kernel
theorem none_plans : ∀ s ∈ ["", "set main/a 1", "gone main//a 1", "order main/a", "order main/a #1 -", "order main//a #1", "set main//b 1; set main//a 1", "gone main//a; set main//a 1", "order main/a #1; order main/a #2"], (rPlan (txt s)).isNone = true := by decide +kernel
end K9

namespace K2
open PySem PySem.Spec PyProof.Rows L2

def topS (i : Nat) : Stmt :=
  PySem.Challenge.pw_sourceback_k92_texts_that_are_none.main.body.getD i (.Pass ⟨0, 0, 0, 0⟩)
abbrev sIsName : Stmt := topS 13
abbrev sInner : Stmt := topS 14
abbrev sRun : Stmt := topS 15
abbrev sStrEnd : Stmt := topS 16
abbrev sNumIn : Stmt := topS 20
abbrev sScanner : Stmt := topS 24
abbrev sReadE : Stmt := topS 28
abbrev sReadP : Stmt := topS 29
abbrev sTakeE : Stmt := topS 30
abbrev sTakeStep : Stmt := topS 31
abbrev sTakeP : Stmt := topS 32
abbrev sTakeD : Stmt := topS 33
abbrev sTakeS : Stmt := topS 34
abbrev sAhead : Stmt := topS 35
abbrev sBox : Stmt := topS 37
abbrev sTake : Stmt := topS 38
abbrev sOf : Stmt := topS 39
abbrev sAny : Stmt := topS 40
abbrev sLitT : Stmt := topS 41
abbrev sPathT : Stmt := topS 42
abbrev sPlaceT : Stmt := topS 43
abbrev sWorthT : Stmt := topS 44
abbrev sRecT : Stmt := topS 45
abbrev sStepT : Stmt := topS 46
abbrev sEditT : Stmt := topS 47
abbrev sDeedT : Stmt := topS 48
abbrev sPlanT : Stmt := topS 49
abbrev sName : Stmt := topS 50
abbrev sLabP : Stmt := topS 51
abbrev sLiteral : Stmt := topS 52
abbrev sRec : Stmt := topS 53
abbrev sEdit : Stmt := topS 54
abbrev sDeeds : Stmt := topS 55
abbrev sAsked : Stmt := topS 56
abbrev sBent : Stmt := topS 57
abbrev sIsLit : Stmt := topS 58
abbrev sEFine : Stmt := topS 59
abbrev sPFine : Stmt := topS 60
abbrev sRight : Stmt := topS 61
abbrev sLaw : Stmt := topS 62
abbrev mInit : Stmt := inClass sScanner 0
abbrev mRefuse : Stmt := inClass sScanner 1
abbrev mSees : Stmt := inClass sScanner 2
abbrev mAccepts : Stmt := inClass sScanner 3
abbrev mExpect : Stmt := inClass sScanner 4
abbrev mEnd : Stmt := inClass sScanner 5
abbrev mTo : Stmt := inClass sScanner 6
abbrev mWord : Stmt := inClass sScanner 7
abbrev mName : Stmt := inClass sScanner 8
abbrev mNumber : Stmt := inClass sScanner 9
abbrev mSerial : Stmt := inClass sScanner 10
abbrev mLiteral : Stmt := inClass sScanner 11
abbrev mPath : Stmt := inClass sScanner 12
abbrev mPart : Stmt := inClass sScanner 13
abbrev mPlace : Stmt := inClass sScanner 14
abbrev mSpot : Stmt := inClass sScanner 15
abbrev mRecord : Stmt := inClass sScanner 16
abbrev mContent : Stmt := inClass sScanner 17
abbrev mRows : Stmt := inClass sScanner 18
abbrev sBadInit : Stmt := inClass (topS 4) 0
abbrev sBEInit : Stmt := inClass (topS 2) 0
abbrev sBPInit : Stmt := inClass (topS 3) 0
abbrev sBLInit : Stmt := inClass (topS 5) 0

theorem scTake : FnScope ["_law_box_here", "_law_many", "_law_digit", "_law_mixed"] ["_law_box_here", "_law_many"]
    (defScope sTake) := ⟨rfl, rfl, rfl, by decide +kernel, rfl, by decide +kernel, by decide +kernel⟩

/-- a box of digits at b: what is left of the cell, the mixed number, the count of draws -/
def Box (c : Int) (H : Hp) (b : Addr) : Prop :=
  ∃ o m k : Int, H b = some (.lst [.int o, .int m, .int k]) ∧ (0 ≤ o ∧ o < 2 ^ 1100) ∧ (0 ≤ m ∧ m < 2 ^ 61) ∧ (0 ≤ k ∧ k ≤ c)
/-- all but b stands as before -/
def Kept (b : Addr) (H H' : Hp) : Prop := ∀ a o, H a = some o → a ≠ b → H' a = some o

theorem Kept.refl (b : Addr) (H : Hp) : Kept b H H := fun _ _ e _ => e
theorem Kept.trans {b : Addr} {H H' H'' : Hp} (x : Kept b H H') (y : Kept b H' H'') : Kept b H H'' :=
  fun a o e n => y a o (x a o e n) n
theorem Kept.upd {b : Addr} {H H' : Hp} {o : HO} (x : Kept b H H') : Kept b H (upd H' b o) := fun a u e n => by
  rw [upd_ne n]
  exact x a u e n

theorem small64 {x : Int} (h0 : 0 ≤ x) (h1 : x < 2 ^ 64) : -(2 ^ 64) < x ∧ x < 2 ^ 64 := ⟨by omega, h1⟩

theorem bits_le {x : Int} {n : Nat} (h : x.natAbs < 2 ^ n) (hn : 0 < n) : x.natAbs.log2 < n := PySem.Flt.log2_lt_of hn h

theorem pass_int {Q : V → Hp → Prop} {z : Int} {H : Hp} (h : ∀ x, x = z → Q (.int x) H) : Q (.int z) H := h z rfl

def spTake : Sp := fun vs H Q _ => ∃ (b : Addr) (n c : Int), vs = [.ref b, .int n] ∧ Box c H b ∧ 1 ≤ n ∧ n ≤ 2 ^ 20 ∧
  c ≤ 200000 ∧ ∀ H' r, Kept b H H' → Box (c + 1) H' b → 0 ≤ r → r < n → Q (.int r) H'

section
variable {P : Program} {w : World} {K : PySem.W.Frag} {mg : Str → Option Value} {base : Heap}

theorem ok_take {f : Addr} {fd : FuncData} (F : Fun K "_law_take" "_law_take" sTake f fd) :
    FnOk P w K mg base CX0 1 f fd ["_law_box_here", "_law_many"] spTake := by
  refine F.ok scTake (fun vs H Q E h => ?_) (fun cdv A outer s H vs Q E hr h => ?_)
  · obtain ⟨b, n, c, rfl, _⟩ := h
    rfl
  · obtain ⟨b, n, c, rfl, ⟨o, m, k, hb, ho, hm, hk⟩, n1, n2, hc, q⟩ := h
    refine ⟨_, pss_cons (ps_if (pt_cmpR op_gt (pe_ix ix_list (pv 0) pe_int (fun _ _ => rfl)) pe_int (nomark _))
        (pss_cons (ps_set (i := 2) scTake.nd rfl (.inl rfl)
            (pe_op op_mod (pe_ix ix_list (pv 0) pe_int (fun _ _ => rfl)) (pv 1)))
          (pss_cons (ps_asg (pe_op op_fdivW (pe_ix ix_list (pv 0) pe_int (fun _ _ => rfl)) (pv 1))
              (pg_sub (pv 0) pe_int set_list))
            (pss_one (ps_ret (pv 2))))) pss_nil)
      (pss_cons (ps_asg (pe_op op_add (pe_ix ix_list (pv 0) pe_int (fun _ _ => rfl)) pe_int)
          (pg_sub (pv 0) pe_int set_list))
      (pss_cons (ps_set (i := 3) scTake.nd rfl (.inl rfl)
          (pe_op op_mod (pe_op op_mul (pe_op op_add (pe_op op_add (pe_ix ix_list (pv 0) pe_int (fun _ _ => rfl))
              (pe_op op_mul (pe_op op_mul pe_int (pe_ix ix_list (pv 0) pe_int (fun _ _ => rfl)))
                (pe_ix ix_list (pv 0) pe_int (fun _ _ => rfl)))) pe_int) pe_int) pe_int))
      (pss_cons (ps_set (i := 3) scTake.nd rfl (.inl rfl)
          (pe_op op_mod (pe_op op_mul (pv 3) (pe_op op_add (pe_op op_mod (pv 3) pe_int)
            (pe_op op_mul pe_int (pe_ix ix_list (pv 0) pe_int (fun _ _ => rfl))))) pe_int))
      (pss_one (ps_ret (pe_op op_mod (pe_op op_add (pe_op op_fdiv (pv 3) pe_int) (pe_op op_fdiv (pv 3) pe_int))
        (pv 1))))))), ?_⟩
    have hB : SqL K H b [.int o, .int m, .int k] := SqL.of hb
    -- if box[0] > 0
    refine ⟨.ref b, rfl, b, _, 0, .int o, rfl, rfl, hB, atI_nat (j := 0) rfl, o, 0, rfl, rfl, _, rfl, ?_⟩
    refine ite2 (fun e => ?_) (fun e => ?_)
    · have ho0 : 0 < o := of_decide_eq_true e
      have hn0 : 0 < n := by omega
      refine ⟨.ref b, rfl, b, _, 0, .int o, rfl, rfl, hB, atI_nat (j := 0) rfl, .int n, rfl, o, n, rfl, rfl, hn0, ?_⟩
      -- box[0] = box[0] // many
      refine ⟨.ref b, rfl, b, _, 0, .int o, rfl, rfl, hB, atI_nat (j := 0) rfl, .int n, rfl, o, n, rfl, rfl,
        ⟨hn0, bits_le (n := 9000) (by omega) (by decide)⟩, ?_⟩
      refine ⟨.ref b, rfl, b, _, 0, 0, rfl, rfl, hb, rfl, ?_⟩
      refine ⟨.int (o % n), rfl, ?_⟩
      have d0 : 0 ≤ o / n := Int.ediv_nonneg ho.1 (by omega)
      have d1 : o / n ≤ o := Int.ediv_le_self _ ho.1
      exact q _ _ (Kept.refl b H).upd ⟨o / n, m, k, upd_same, ⟨d0, by omega⟩, hm, ⟨hk.1, by omega⟩⟩
        (Int.emod_nonneg _ (by omega)) (Int.emod_lt_of_pos _ hn0)
    · have hn0 : 0 < n := by omega
      -- box[2] = box[2] + 1
      refine ⟨.ref b, rfl, b, _, 2, .int k, rfl, rfl, hB, atI_nat (j := 2) rfl, k, 1, rfl, rfl, ?_⟩
      refine ⟨.ref b, rfl, b, _, 2, 2, rfl, rfl, hb, rfl, ?_⟩
      generalize hH1 : upd H b _ = H1
      have hb1 : H1 b = some (.lst [.int o, .int m, .int (k + 1)]) := by
        rw [← hH1, upd_same]
        rfl
      have hB1 : SqL K H1 b [.int o, .int m, .int (k + 1)] := SqL.of hb1
      have kp : Kept b H H1 := by
        rw [← hH1]
        exact (Kept.refl b H).upd
      have hk1 : 0 ≤ k + 1 := by omega
      have hk2 : k + 1 ≤ 200001 := by omega
      -- mixed
      refine ⟨.ref b, rfl, b, _, 1, .int m, rfl, rfl, hB1, atI_nat (j := 1) rfl, .ref b, rfl, b, _, 2, .int (k + 1), rfl, rfl,
        hB1, atI_nat (j := 2) rfl, 65551, k + 1, rfl, rfl, .inl ⟨by decide, by decide⟩, ?_⟩
      refine ⟨.ref b, rfl, b, _, 2, .int (k + 1), rfl, rfl, hB1, atI_nat (j := 2) rfl, 65551 * (k + 1), k + 1, rfl, rfl,
        .inr ⟨by omega, by omega⟩, ?_⟩
      refine ⟨m, 65551 * (k + 1) * (k + 1), rfl, rfl, m + 65551 * (k + 1) * (k + 1), 29, rfl, rfl, _, 48281, rfl, rfl,
        .inr ⟨by decide, by decide⟩, _, 2305843009213693921, rfl, rfl, by show (0 : Int) < 2305843009213693921; decide, ?_⟩
      show gName 3 (V.int ((m + 65551 * (k + 1) * (k + 1) + 29) * 48281 % 2305843009213693921)) _ H1 _
      generalize hx : (m + 65551 * (k + 1) * (k + 1) + 29) * 48281 % 2305843009213693921 = x
      have hx0 : 0 ≤ x := by
        rw [← hx]
        exact Int.emod_nonneg _ (by decide)
      have hx1 : x < 2305843009213693921 := by
        rw [← hx]
        exact Int.emod_lt_of_pos _ (by decide)
      -- mixed again
      refine ⟨.int x, rfl, .int x, rfl, x, 1000039, rfl, rfl, by show (0 : Int) < 1000039; decide, .ref b, rfl, b, _, 2, .int (k + 1), rfl, rfl,
        hB1, atI_nat (j := 2) rfl, 99989, k + 1, rfl, rfl, .inl ⟨by decide, by decide⟩, _, _, rfl, rfl, x, _, rfl, rfl,
        .inl ⟨by omega, by omega⟩, _, 2305843009213693907, rfl, rfl, by show (0 : Int) < 2305843009213693907; decide, ?_⟩
      show gName 3 (V.int (x * (x % 1000039 + 99989 * (k + 1)) % 2305843009213693907)) _ H1 _
      generalize hy : x * (x % 1000039 + 99989 * (k + 1)) % 2305843009213693907 = y
      -- the end
      refine ⟨.int y, rfl, y, 109, rfl, rfl, ⟨by decide, by decide⟩, .int y, rfl, y, 1000081, rfl, rfl, ⟨by decide, by decide⟩,
        _, _, rfl, rfl, .int n, rfl, _, n, rfl, rfl, hn0, ?_⟩
      exact q H1 _ kp ⟨o, m, k + 1, hb1, ho, hm, ⟨hk1, by omega⟩⟩ (Int.emod_nonneg _ (by omega)) (Int.emod_lt_of_pos _ hn0)
end
end K2

namespace K2
open PySem PySem.Spec PyProof.Rows L2

theorem scOf : FnScope ["_law_box_here", "_law_some"] ["_law_box_here", "_law_some"] (defScope sOf) :=
  ⟨rfl, rfl, rfl, by decide +kernel, rfl, by decide +kernel, by decide +kernel⟩
theorem scBox : FnScope ["_law_script", "_law_k", "_law_digits", "_law_own"] ["_law_script", "_law_k"] (defScope sBox) :=
  ⟨rfl, rfl, rfl, by decide +kernel, rfl, by decide +kernel, by decide +kernel⟩

/-- the names of the built-in things that the text reads: none is a name of its own -/
structure Bare (mg : Str → Option Value) : Prop where
  len : mg "len" = none
  abs : mg "abs" = none
  int : mg "int" = none
  isin : mg "isinstance" = none
  str : mg "str" = none
  all : mg "all" = none
  range : mg "range" = none
  list : mg "list" = none
  repr : mg "repr" = none
  max : mg "max" = none
  min : mg "min" = none

def spOf : Sp := fun vs H Q _ => ∃ (b l : Addr) (xs : List V) (c : Int), vs = [.ref b, .ref l] ∧ Box c H b ∧
  H l = some (.lst xs) ∧ l ≠ b ∧ 1 ≤ xs.length ∧ xs.length ≤ 1000 ∧ c ≤ 200000 ∧
  ∀ H' v, Kept b H H' → Box (c + 1) H' b → v ∈ xs → Q v H'

def spBox (K : PySem.W.Frag) : Sp := fun vs H Q _ => ∃ (a : Addr) (ns : List Int) (k : Int), vs = [.ref a, .int k] ∧
  SqL K H a (ns.map V.int) ∧ 0 ≤ k ∧ k ≤ 2 ∧ ∀ H' p, Same H H' → H p = none → Box 0 H' p → Q (.ref p) H'

section
variable {P : Program} {w : World} {K : PySem.W.Frag} {mg : Str → Option Value} {base : Heap}

theorem op_powB {X : Cx} : OpR X (binaryOp .Pow)
    (rI (fun i j => 0 ≤ j ∧ (Builtin.Int.intBits i : Int) * j ≤ 2 ^ 27) fun i j => .int (i ^ j.toNat)) :=
  opI fun _ _ _ _ _ _ _ hc q => pow_int hc.1 hc.2 q

theorem any_val {t : TE} {σ : L2.St} {H : Hp} {Q : VK} (h : ∀ Q' : VK, (∀ d : Int, Q' (.int d) H) → t σ H Q')
    (hq : ∀ d, Q (.int d) H) : t σ H Q := h Q hq
theorem same_upd {H : Hp} {p : Addr} {o : HO} (h : H p = none) : Same H (upd H p o) := fun b x e => by
  rw [upd_ne (ne_of_none e h)]
  exact e

theorem atI_toNat {xs : List V} {i : Int} {v : V} (h0 : 0 ≤ i) (h : xs[i.toNat]? = some v) : atI xs i = some v := by
  have e : i = ((i.toNat : Nat) : Int) := by omega
  rw [e]
  exact atI_nat h

theorem b01 (t : Bool) : -(2 ^ 64) < (if t then (1 : Int) else 0) ∧ (if t then (1 : Int) else 0) < 2 ^ 64 := by
  cases t <;> decide

theorem ok_of {f fT : Addr} {fd fdT : FuncData} (F : Fun K "_law_of" "_law_of" sOf f fd)
    (FT : Fun K "_law_take" "_law_take" sTake fT fdT) (bT : Binds K fdT ["_law_box_here", "_law_many"] [])
    (gT : mg "_law_take" = some (.ref fT)) (Z : Bare mg) :
    FnOk P w K mg base CX0 2 f fd ["_law_box_here", "_law_some"] spOf := by
  have GT : FnOk P w K mg base CX0 1 fT fdT ["_law_box_here", "_law_many"] spTake := ok_take FT
  refine F.ok scOf (fun vs H Q E h => ?_) (fun cdv A outer s H vs Q E hr h => ?_)
  · obtain ⟨b, l, xs, c, rfl, _⟩ := h
    rfl
  · obtain ⟨b, l, xs, c, rfl, hb, hl, nlb, n1, n2, hc, q⟩ := h
    refine ⟨_, pss_one (ps_ret (pe_ix ix_list (pv 1) (pe_call GT hr (by rfl) gT FT.kp bT .nil pass0
      (pa_cons (pv 0) (pa_cons (pe_callB call_len_seq (by rfl) Z.len PySem.boot_len (pa_cons (pv 1) pa_nil)) pa_nil)))
      (fun _ _ => rfl))), ?_⟩
    refine ⟨.ref l, rfl, .ref b, rfl, .ref l, rfl, l, xs, rfl, .inl (SqL.of hl), b, _, c, rfl, hb, by omega, by omega, hc, fun H' r kp hb' r0 r1 => ?_⟩
    have hl' : H' l = some (.lst xs) := kp _ _ hl nlb
    have hi : r.toNat < xs.length := by omega
    have er : r = ((r.toNat : Nat) : Int) := by omega
    refine ⟨l, xs, r, xs[r.toNat], rfl, rfl, SqL.of hl', ?_, q H' _ kp hb' (List.getElem_mem hi)⟩
    exact atI_toNat r0 (by simp [hi])

/-- own and mixed, for any digits -/
theorem own_lt (d : Int) (t : Bool) : 0 ≤ (if d < 0 then -d else d) % ((10 : Int) ^ (60 : Int).toNat) ^ (5 : Int).toNat * (if t then 1 else 0) ∧
    (if d < 0 then -d else d) % ((10 : Int) ^ (60 : Int).toNat) ^ (5 : Int).toNat * (if t then 1 else 0) < 2 ^ 1100 := by
  have h1 : (0 : Int) < ((10 : Int) ^ (60 : Int).toNat) ^ (5 : Int).toNat := by decide +kernel
  have h2 : ((10 : Int) ^ (60 : Int).toNat) ^ (5 : Int).toNat < 2 ^ 1100 := by decide +kernel
  generalize ((10 : Int) ^ (60 : Int).toNat) ^ (5 : Int).toNat = B at h1 h2 ⊢
  generalize (if d < 0 then -d else d) = x
  have h3 : 0 ≤ x % B := Int.emod_nonneg _ (by omega)
  have h4 : x % B < B := Int.emod_lt_of_pos _ h1
  cases t
  · simp only [Bool.false_eq_true, if_false, Int.mul_zero]
    exact ⟨Int.le_refl 0, by omega⟩
  · simp only [if_true, Int.mul_one]
    exact ⟨h3, by omega⟩

theorem ok_box {f : Addr} {fd : FuncData} (F : Fun K "_law_box" "_law_box" sBox f fd) (Z : Bare mg) :
    FnOk P w K mg base CX0 1 f fd ["_law_script", "_law_k"] (spBox K) := by
  refine F.ok scBox (fun vs H Q E h => ?_) (fun cdv A outer s H vs Q E hr h => ?_)
  · obtain ⟨a, ns, k, rfl, _⟩ := h
    rfl
  · obtain ⟨a, ns, k, rfl, hS, k0, k2, q⟩ := h
    refine ⟨_, pss_cons (ps_set (i := 2) scBox.nd rfl (.inl rfl)
        (pe_ifExp (pt_cmpR op_lt (pv 1) (pe_callB call_len_seq (by rfl) Z.len PySem.boot_len (pa_cons (pv 0) pa_nil)) (nomark _))
          (pe_ix ix_list (pv 0) (pv 1) (fun _ _ => rfl)) (pe_op op_add (pe_op op_mul pe_int (pv 1)) pe_int)))
      (pss_cons (ps_set (i := 3) scBox.nd rfl (.inl rfl)
        (pe_op op_mul (pe_op op_mod (pe_callB call_abs (by rfl) Z.abs (by decide +kernel) (pa_cons (pv 2) pa_nil))
            (pe_op op_powB (pe_op op_pow pe_int pe_int) pe_int))
          (pe_callTy call_int1 (by rfl) Z.int (by decide +kernel) (pa_cons (pe_cmpR op_ge
            (pe_callB call_abs (by rfl) Z.abs (by decide +kernel) (pa_cons (pv 2) pa_nil)) (pe_op op_pow pe_int pe_int) (nomark _)) pa_nil))))
      (pss_one (ps_ret (pe_lst (pa_cons (pv 3) (pa_cons
        (pe_op op_mod (pe_op op_add (pe_op op_add (pe_op op_mul (pe_op op_mod (pv 2) pe_int) pe_int)
          (pe_op op_mul (pe_op op_mul pe_int (pv 1)) (pv 1))) pe_int) pe_int) (pa_cons pe_int pa_nil))))))), ?_⟩
    show tIf _ _ _ _ _ _
    refine any_val (fun Qc hq => ?_) (fun d => ?_)
    · refine ⟨.int k, rfl, .ref a, rfl, a, _, rfl, .inl hS, k, _, rfl, rfl, _, rfl, ?_⟩
      refine ite2 (fun e => ?_) (fun e => ?_)
      · have e' : k < ((ns.map V.int).length : Int) := of_decide_eq_true e
        rw [List.length_map] at e'
        have hi : k.toNat < ns.length := by omega
        exact ⟨.ref a, rfl, .int k, rfl, a, _, k, .int ns[k.toNat], rfl, rfl, hS, atI_toNat k0 (by simp [hi]), hq _⟩
      · exact ⟨.int k, rfl, 37, k, rfl, rfl, .inl ⟨by decide, by decide⟩, 37 * k, 5, rfl, rfl, hq _⟩
    · -- own
      refine ⟨.int d, rfl, d, rfl, 10, 60, rfl, rfl, ⟨by decide, by decide, by decide⟩, _, 5, rfl, rfl, ⟨by decide, by decide +kernel⟩, _, _, rfl, rfl,
        (by show (0 : Int) < ((10 : Int) ^ (60 : Int).toNat) ^ (5 : Int).toNat; decide +kernel), ?_⟩
      refine ⟨.int d, rfl, d, rfl, 10, 18, rfl, rfl, ⟨by decide, by decide, by decide⟩, _, _, rfl, rfl, .inr ⟨_, rfl, _, _, rfl, rfl, .inr (b01 _), ?_⟩⟩
      show gName 3 (.int ((if d < 0 then -d else d) % ((10 : Int) ^ (60 : Int).toNat) ^ (5 : Int).toNat *
        (if decide ((10 : Int) ^ (18 : Int).toNat ≤ (if d < 0 then -d else d)) = true then 1 else 0))) _ H _
      have B := own_lt d (decide ((10 : Int) ^ (18 : Int).toNat ≤ (if d < 0 then -d else d)))
      revert B
      generalize (if d < 0 then -d else d) % ((10 : Int) ^ (60 : Int).toNat) ^ (5 : Int).toNat *
        (if decide ((10 : Int) ^ (18 : Int).toNat ≤ (if d < 0 then -d else d)) = true then 1 else 0) = o
      intro B
      -- the list
      refine ⟨.int o, rfl, .int d, rfl, d, 2305843009213693951, rfl, rfl, (by show (0 : Int) < 2305843009213693951; decide), _, 70079, rfl, rfl, .inr ⟨by decide, by decide⟩,
        .int k, rfl, 4799, k, rfl, rfl, .inl ⟨by decide, by decide⟩, .int k, rfl, 4799 * k, k, rfl, rfl, .inr ⟨by omega, by omega⟩, _, _, rfl, rfl, _, 71, rfl, rfl,
        _, 2305843009213693921, rfl, rfl, (by show (0 : Int) < 2305843009213693921; decide), (by show 3 ≤ sizeLine; decide), fun p hp => ?_⟩
      refine q _ p (same_upd hp) hp ⟨o, _, 0, upd_same, B, ⟨Int.emod_nonneg _ (by decide), ?_⟩, ⟨by decide, by decide⟩⟩
      exact Int.lt_trans (Int.emod_lt_of_pos _ (by decide)) (by decide)
end
end K2

set_option maxHeartbeats 2000000
/-! The program's own defs below `tokens`. -/
namespace K2
open PySem PySem.Spec PyProof.Rows L2

/-- the signs of a text -/
abbrev cp (x : Str) : List Nat := x.cps.toList
theorem cp_len (x : Str) : (cp x).length = x.length := by simp [cp, Str.length]
theorem cp_get (x : Str) (i : Nat) : x.cps[i]? = (cp x)[i]? := by simp [cp]
theorem drop_get {l : List Nat} {a i : Nat} : (l.drop a)[i]? = l[a + i]? := by rw [List.getElem?_drop]
theorem drop_at {l : List Nat} {a c : Nat} (h : l[a]? = some c) : l.drop a = c :: l.drop (a + 1) := by
  obtain ⟨lt, e⟩ := List.getElem?_eq_some_iff.mp h
  rw [List.drop_eq_getElem_cons lt, e]

def most : Nat := 2 ^ 19

/-! ### the first sign of a sort -/
theorem span_all {p : Nat → Bool} : ∀ {l : List Nat}, (∀ (i c : Nat), l[i]? = some c → p c = true) → span p l = l.length
  | [], _ => rfl
  | x :: r, h => by
    rw [span_pos (h 0 x rfl), span_all (l := r) fun i c e => h (i + 1) c e]
    rfl
theorem span_first {p : Nat → Bool} : ∀ {l : List Nat} {n c : Nat}, (∀ (i c : Nat), i < n → l[i]? = some c → p c = true) → l[n]? = some c → p c = false → span p l = n
  | [], _, _, _, h, _ => by simp at h
  | x :: r, 0, c, _, h, hc => by
    cases h
    exact span_neg hc
  | x :: r, n + 1, c, ha, h, hc => by
    rw [span_pos (ha 0 x (by omega) rfl), span_first (l := r) (n := n) (fun i c lt e => ha (i + 1) c (by omega) e) h hc]

theorem find3_sign (x : Str) (c a : Nat) (ha : a ≤ (cp x).length) :
    Txt.find3 x ⟨#[c]⟩ (a : Int) = if span (fun y => decide (y ≠ c)) ((cp x).drop a) = ((cp x).drop a).length then -1 else ((a + span (fun y => decide (y ≠ c)) ((cp x).drop a) : Nat) : Int) := by
  unfold Txt.find3
  have e0 : fromIndex x.length (a : Int) = a := by
    unfold fromIndex
    rw [if_neg (by omega)]
    omega
  rw [e0, StrLaws.occ_eq]
  have ll := cp_len x
  rcases StrLaws.occ_first x ⟨#[c]⟩ x.length 1 (Nat.le_refl 1) (List.range' a (x.length + 1 - a)) a (fun i hi => (List.mem_range'_1.mp hi).1) with ⟨e, n⟩ | ⟨pre, k, post, el, e, at_, n⟩
  · rw [e]
    have z : span (fun y => decide (y ≠ c)) ((cp x).drop a) = ((cp x).drop a).length := by
      refine span_all fun i d hd => decide_eq_true ?_
      rintro rfl
      rw [drop_get] at hd
      have lt := (List.getElem?_eq_some_iff.mp hd).1
      exact n (a + i) (List.mem_range'_1.mpr ⟨by omega, by omega⟩) ((StrLaws.subAt_one x d (a + i)).mpr hd)
    rw [if_pos z]
  · have hk : k = a + pre.length := by
      have := congrArg (fun l => l[pre.length]?) el
      simp only [List.getElem?_append_right (Nat.le_refl _), Nat.sub_self, List.getElem?_cons_zero] at this
      have lt : pre.length < x.length + 1 - a := by
        have := congrArg List.length el
        rw [List.length_range', List.length_append, List.length_cons] at this
        omega
      rw [List.getElem?_range' lt] at this
      have := Option.some.inj this
      omega
    have hc := (StrLaws.subAt_one x c k).mp at_
    have hs : span (fun y => decide (y ≠ c)) ((cp x).drop a) = pre.length := by
      refine span_first (c := c) (fun i d lt hd => decide_eq_true ?_) (by rw [drop_get, ← hk]; exact hc) (decide_eq_false (fun z => z rfl))
      rintro rfl
      rw [drop_get] at hd
      refine n (a + i) ?_ ((StrLaws.subAt_one x d (a + i)).mpr hd)
      have := congrArg (fun l => l[i]?) el
      simp only [List.getElem?_append_left lt] at this
      have lt2 : i < x.length + 1 - a := by
        have := congrArg List.length el
        rw [List.length_range', List.length_append, List.length_cons] at this
        omega
      rw [List.getElem?_range' lt2] at this
      rw [show a + i = a + 1 * i by omega]
      exact List.mem_of_getElem? this.symm
    have lk : k < (cp x).length := (List.getElem?_eq_some_iff.mp hc).1
    rw [hs, if_neg (by rw [List.length_drop]; omega), ← hk]
    generalize (forIn (m := Id) (List.range' a (x.length + 1 - a)) ((#[] : Array Nat), a) (StrLaws.occBody x ⟨#[c]⟩ x.length 1)).run.fst = O at e ⊢
    obtain ⟨l⟩ := O
    cases l with
    | nil => simp at e
    | cons y r =>
      have ey : y = k := by simpa using e
      subst ey
      rfl

theorem one_lt {c d : Nat} : decide ([c] < [d]) = decide (c < d) := by
  have e : ([c] < [d]) ↔ c < d := by
    rw [List.cons_lt_cons_iff]
    constructor
    · rintro (h | ⟨_, h⟩)
      · exact h
      · exact absurd h (List.not_lt_nil _)
    · exact fun h => .inl h
  by_cases h : c < d
  · rw [decide_eq_true h, decide_eq_true (e.mpr h)]
  · rw [decide_eq_false h, decide_eq_false (fun z => h (e.mp z))]

structure Names (mg : Str → Option Value) : Prop where
  let_ : ∃ t, mg "LETTERS" = some (.str "abcdefghijklmnopqrstuvwxyz" t)
  dig : ∃ t, mg "DIGITS" = some (.str "0123456789" t)
  lnm : ∃ t, mg "LONGEST_NAME" = some (.int 12 t)
  mdi : ∃ t, mg "MOST_DIGITS" = some (.int 1000 t)
  dee : ∃ t, mg "DEEPEST" = some (.int 40 t)
  ato : ∃ t, mg "AT_ONCE" = some (.int 64 t)
  quo : ∃ t, mg "QUOTE" = some (.str "\"" t)
  lng : ∃ t, mg "LONGEST_STRING" = some (.int 60 t)

theorem scInner : FnScope ["sign"] ["sign"] (defScope sInner) := ⟨rfl, rfl, rfl, by decide +kernel, rfl, by decide +kernel, by decide +kernel⟩
theorem scRun : FnScope ["text", "at", "letters"] ["text", "at", "letters"] (defScope sRun) := ⟨rfl, rfl, rfl, by decide +kernel, rfl, by decide +kernel, by decide +kernel⟩
theorem scStrE : FnScope ["text", "start", "at"] ["text", "start"] (defScope sStrEnd) := ⟨rfl, rfl, rfl, by decide +kernel, rfl, by decide +kernel, by decide +kernel⟩

def spInner : Sp := fun vs H Q _ => ∃ c : Nat, vs = [.str ⟨#[c]⟩] ∧ Q (.bl (isIn c)) H
def spRun : Sp := fun vs H Q _ => ∃ (x z : Str) (a : Nat), vs = [.str x, .int a, .str z] ∧ a ≤ (cp x).length ∧ (cp x).length ≤ most ∧ Q (.int ((a + span (fun c => decide (c ∈ cp z)) ((cp x).drop a) : Nat) : Int)) H
def strE (l : List Nat) (a : Nat) : Nat := if (l.drop (a + 1))[span isIn (l.drop (a + 1))]? = some 34 ∧ span isIn (l.drop (a + 1)) ≤ 60 then a + (span isIn (l.drop (a + 1)) + 2) else a
def spStrE : Sp := fun vs H Q _ => ∃ (x : Str) (a : Nat), vs = [.str x, .int a] ∧ a < (cp x).length ∧ (cp x).length ≤ most ∧ Q (.int ((strE (cp x) a : Nat) : Int)) H

section
variable {P : Program} {w : World} {K : PySem.W.Frag} {mg : Str → Option Value} {base : Heap}

theorem ok_inner {f : Addr} {fd : FuncData} (F : Fun K "is_inner" "is_inner" sInner f fd) (Z : Names mg) :
    FnOk P w K mg base CX0 1 f fd ["sign"] spInner := by
  obtain ⟨tq, gq⟩ := Z.quo
  refine F.ok scInner (fun vs H Q E h => ?_) (fun cdv A outer s H vs Q E hr h => ?_)
  · obtain ⟨c, rfl, _⟩ := h
    rfl
  · obtain ⟨c, rfl, q⟩ := h
    refine ⟨_, pss_one (ps_ret (pe_and (pe_chain op_le_str op_le_str pe_str (pv 0) pe_str)
      (pe_and (pe_cmpR op_ne (pv 0) (pe_glob (v := .str "\"") rfl gq ⟨_, rfl⟩) (nomark _)) (pe_one (pe_cmpR op_ne (pv 0) pe_str (nomark _)))))), ?_⟩
    have e0 : isIn c = (!decide ([c] < [32]) && (!decide ([126] < [c]) && (!decide (V.str ⟨#[c]⟩ = V.str "\"") && !decide (V.str ⟨#[c]⟩ = V.str "\\")))) := by
      have ea : decide (V.str ⟨#[c]⟩ = V.str "\"") = decide (c = 34) := by
        rw [show ("\"" : Str) = ⟨#[34]⟩ by decide +kernel]
        by_cases h : c = 34
        · subst h; rfl
        · rw [decide_eq_false h, decide_eq_false (by intro z; cases z; exact h rfl)]
      have eb : decide (V.str ⟨#[c]⟩ = V.str "\\") = decide (c = 92) := by
        rw [show ("\\" : Str) = ⟨#[92]⟩ by decide +kernel]
        by_cases h : c = 92
        · subst h; rfl
        · rw [decide_eq_false h, decide_eq_false (by intro z; cases z; exact h rfl)]
      rw [one_lt, one_lt, ea, eb, Bool.eq_iff_iff]
      simp [isIn]
      omega
    rw [e0] at q
    refine ⟨.str ⟨#[c]⟩, rfl, _, _, rfl, rfl, _, rfl, ?_⟩
    refine ite2 (fun e1 => ?_) (fun e1 => ?_)
    · have e1' : (!decide ([c] < [32])) = true := e1
      rw [e1', Bool.true_and] at q
      refine ⟨_, _, rfl, rfl, _, rfl, ?_⟩
      refine ite2 (fun e2 => ?_) (fun e2 => ?_)
      · have e2' : (!decide ([126] < [c])) = true := e2
        rw [e2', Bool.true_and] at q
        refine ⟨.str ⟨#[c]⟩, rfl, rfl, _, rfl, ?_⟩
        refine ite2 (fun e3 => ?_) (fun e3 => ?_)
        · rw [e3, Bool.true_and] at q
          exact ⟨.str ⟨#[c]⟩, rfl, rfl, q⟩
        · rw [Bool.eq_false_iff.mpr e3, Bool.false_and] at q
          exact q
      · have e2' : (!decide ([126] < [c])) = false := Bool.eq_false_iff.mpr e2
        rw [e2', Bool.false_and] at q
        exact q
    · have e1' : (!decide ([c] < [32])) = false := Bool.eq_false_iff.mpr e1
      rw [e1', Bool.false_and] at q
      exact ⟨false, rfl, iteF q⟩

theorem most_line {n : Nat} (h : n ≤ most) : n ≤ sizeLine := Nat.le_trans h (by decide)
theorem most63 {n : Nat} (h : n ≤ most) : (n : Int) < 2 ^ 63 := by
  have : n ≤ 2 ^ 19 := h
  omega

/-- at < len(text) -/
theorem lt_dec (x : Str) (a : Nat) : decide ((a : Int) < ((x.length : Nat) : Int)) = decide (a < (cp x).length) := by
  rw [cp_len]
  by_cases h : a < x.length
  · rw [decide_eq_true h, decide_eq_true (by omega)]
  · rw [decide_eq_false h, decide_eq_false (by omega)]

theorem ok_run {f : Addr} {fd : FuncData} (F : Fun K "run_end" "run_end" sRun f fd) (Z : Bare mg) :
    FnOk P w K mg base CX0 1 f fd ["text", "at", "letters"] spRun := by
  refine F.ok scRun (fun vs H Q E h => ?_) (fun cdv A outer s H vs Q E hr h => ?_)
  · obtain ⟨x, z, a, rfl, _⟩ := h
    rfl
  · obtain ⟨x, z, a, rfl, ha, hl, q⟩ := h
    refine ⟨_, pss_cons (ps_while PassesOwn.never
        (PW.pt (pw_and (pt_cmpR op_lt (pv 1) (pe_callB call_len_str (by rfl) Z.len PySem.boot_len (pa_cons (pv 0) pa_nil)) (nomark _))
          (pw_and1 (pt_cmpR op_in_sign (pe_item_str (pv 0) (pv 1) (fun _ _ => rfl)) (pv 2) (by with_unfolding_all rfl)))))
        (pss_one (ps_aug (i := 1) scRun.nd rfl (.inl rfl) pe_int ip_add)))
      (pss_one (ps_ret (pv 1))), ?_⟩
    generalize hp : (fun c => decide (c ∈ cp z)) = p at q
    refine ⟨fun m σ H' => ∃ b : Nat, m = (cp x).length - b ∧ σ = [some (.str x), some (.int b), some (.str z)] ∧ H = H' ∧ b ≤ (cp x).length ∧ b + span p ((cp x).drop b) = a + span p ((cp x).drop a), ⟨_, a, rfl, rfl, rfl, ha, rfl⟩, ?_⟩
    rintro m σ H' ⟨b, rfl, rfl, rfl, hb, he⟩
    refine ⟨.int b, rfl, .str x, rfl, x, rfl, most_line (by rw [← cp_len]; exact hl), _, _, rfl, rfl, _, rfl, ?_⟩
    rw [lt_dec]
    refine ite2 (fun e1 => ?_) (fun e1 => ?_)
    · have lt : b < (cp x).length := of_decide_eq_true e1
      have hc : (cp x)[b]? = some ((cp x)[b]) := List.getElem?_eq_getElem lt
      generalize (cp x)[b] = c at hc
      have m63 := most63 hl
      refine ⟨.str x, rfl, .int b, rfl, x, b, c, rfl, rfl, by omega, by omega, by rw [← cp_len]; omega, by rw [cp_get]; exact hc, .str z, rfl, c, z, rfl, rfl, _, rfl, ?_⟩
      have ec : decide (c ∈ z.cps.toList) = p c := by rw [← hp]
      rw [ec]
      cases hpc : p c with
      | true =>
        refine iteT ⟨fun σ' H' => ∃ m', m' < (cp x).length - b ∧ ∃ b : Nat, m' = (cp x).length - b ∧ σ' = [some (.str x), some (.int b), some (.str z)] ∧ H = H' ∧ b ≤ (cp x).length ∧ b + span p ((cp x).drop b) = a + span p ((cp x).drop a), fun _ _ w => w, ?_⟩
        refine ⟨.int b, rfl, b, 1, rfl, rfl, (cp x).length - (b + 1), by omega, b + 1, rfl, rfl, rfl, lt, ?_⟩
        rw [← he, drop_at hc, span_pos hpc]
        omega
      | false =>
        rw [drop_at hc, span_neg hpc] at he
        refine iteF ⟨.int b, rfl, ?_⟩
        rw [show b = a + span p ((cp x).drop a) by omega]
        exact q
    · have ge : ¬ b < (cp x).length := fun z => e1 (decide_eq_true z)
      rw [List.drop_eq_nil_of_le (by omega), span_nil] at he
      refine ⟨.int b, rfl, ?_⟩
      rw [show b = a + span p ((cp x).drop a) by omega]
      exact q

theorem pure_str (z : Str) (L : List Nat) (f : Nat → Bool) (hz : cp z = L) (ha : ∀ c ∈ L, c < 128) (hb : ∀ c, f c = true → c < 128) (hs : ∀ c, c < 128 → L.contains c = f c) (c : Nat) :
    decide (c ∈ cp z) = f c := by
  rw [hz, Bool.eq_iff_iff, decide_eq_true_iff]
  constructor
  · intro h
    rw [← hs c (ha c h)]
    exact List.contains_iff_mem.mpr h
  · intro h
    rw [← hs c (hb c h)] at h
    exact List.contains_iff_mem.mp h
theorem letters_is (c : Nat) : decide (c ∈ cp ("abcdefghijklmnopqrstuvwxyz" : Str)) = isLet c :=
  pure_str _ (List.range' 97 26) isLet (by decide +kernel) (by decide +kernel) (fun c h => by simp [isLet] at h; omega) (by decide +kernel) c
theorem digits_is (c : Nat) : decide (c ∈ cp ("0123456789" : Str)) = isDig c :=
  pure_str _ (List.range' 48 10) isDig (by decide +kernel) (by decide +kernel) (fun c h => by simp [isDig] at h; omega) (by decide +kernel) c
theorem dec_sign (c d : Nat) (z : Str) (hz : z = ⟨#[d]⟩) : decide (V.str ⟨#[c]⟩ = V.str z) = decide (c = d) := by
  subst hz
  by_cases h : c = d
  · subst h
    rw [decide_eq_true rfl, decide_eq_true rfl]
  · rw [decide_eq_false h, decide_eq_false (by intro z; cases z; exact h rfl)]

theorem ok_strE {f fI : Addr} {fd fdI : FuncData} (F : Fun K "string_end" "string_end" sStrEnd f fd) (Z : Bare mg) (N : Names mg)
    (FI : Fun K "is_inner" "is_inner" sInner fI fdI) (bI : Binds K fdI ["sign"] []) (gI : mg "is_inner" = some (.ref fI)) :
    FnOk P w K mg base CX0 2 f fd ["text", "start"] spStrE := by
  have GI : FnOk P w K mg base CX0 1 fI fdI ["sign"] spInner := ok_inner FI N
  obtain ⟨tq, gq⟩ := N.quo
  obtain ⟨tl, gl⟩ := N.lng
  refine F.ok scStrE (fun vs H Q E h => ?_) (fun cdv A outer s H vs Q E hr h => ?_)
  · obtain ⟨x, a, rfl, _⟩ := h
    rfl
  · obtain ⟨x, a, rfl, ha, hl, q⟩ := h
    refine ⟨_, pss_cons (ps_set (i := 2) scStrE.nd rfl (.inl rfl) (pe_op op_add (pv 1) pe_int))
      (pss_cons (ps_while PassesOwn.never
        (PW.pt (pw_and (pt_cmpR op_lt (pv 2) (pe_callB call_len_str (by rfl) Z.len PySem.boot_len (pa_cons (pv 0) pa_nil)) (nomark _))
          (pw_and1 (pt_val (pe_call GI hr (by rfl) gI FI.kp bI .nil pass0 (pa_cons (pe_item_str (pv 0) (pv 2) (fun _ _ => rfl)) pa_nil))))))
        (pss_one (ps_aug (i := 2) scStrE.nd rfl (.inl rfl) pe_int ip_add)))
      (pss_cons (ps_if (PW.pt (pw_or (pt_cmpR op_eq (pv 2) (pe_callB call_len_str (by rfl) Z.len PySem.boot_len (pa_cons (pv 0) pa_nil)) (nomark _))
          (pw_or (pt_cmpR op_ne (pe_item_str (pv 0) (pv 2) (fun _ _ => rfl)) (pe_glob (v := .str "\"") rfl gq ⟨_, rfl⟩) (nomark _))
            (pw_or1 (pt_cmpR op_gt (pe_op op_sub (pe_op op_sub (pv 2) (pv 1)) pe_int) (pe_glob (v := .int 60) rfl gl ⟨_, rfl⟩) (nomark _))))))
        (pss_one (ps_ret (pv 1))) pss_nil)
      (pss_one (ps_ret (pe_op op_add (pv 2) pe_int))))), ?_⟩
    refine ⟨.int a, rfl, _, _, rfl, rfl, ?_⟩
    obtain ⟨n, hn⟩ : ∃ n, n = span isIn ((cp x).drop (a + 1)) := ⟨_, rfl⟩
    have nl : n ≤ (cp x).length - (a + 1) := by
      rw [hn, ← List.length_drop]
      exact span_le _ _
    have ll : x.length = (cp x).length := (cp_len x).symm
    have m63 := most63 hl
    unfold strE at q
    rw [← hn] at q
    refine ⟨fun m σ H' => ∃ b : Nat, m = (cp x).length - b ∧ σ = [some (.str x), some (.int a), some (.int b)] ∧ H = H' ∧ b ≤ (cp x).length ∧ b + span isIn ((cp x).drop b) = a + 1 + n, ⟨_, a + 1, rfl, rfl, rfl, ha, by rw [hn]⟩, ?_⟩
    rintro m σ H' ⟨b, rfl, rfl, rfl, hb, he⟩
    refine ⟨.int b, rfl, .str x, rfl, x, rfl, most_line (by rw [← cp_len]; exact hl), _, _, rfl, rfl, _, rfl, ?_⟩
    rw [lt_dec]
    refine ite2 (fun e1 => ?_) (fun e1 => ?_)
    · have lt : b < (cp x).length := of_decide_eq_true e1
      have hc : (cp x)[b]? = some ((cp x)[b]) := List.getElem?_eq_getElem lt
      generalize (cp x)[b] = c at hc
      have lt' : (b : Int) < x.length := by rw [← cp_len]; omega
      have hc' : x.cps[(b : Int).toNat]? = some c := by rw [cp_get]; exact hc
      refine ⟨.str x, rfl, .int b, rfl, x, b, c, rfl, rfl, by omega, by omega, lt', hc', c, rfl, _, rfl, ?_⟩
      cases hin : isIn c with
      | true =>
        refine iteT ⟨fun σ' H' => ∃ m', m' < (cp x).length - b ∧ ∃ b : Nat, m' = (cp x).length - b ∧ σ' = [some (.str x), some (.int a), some (.int b)] ∧ H = H' ∧ b ≤ (cp x).length ∧ b + span isIn ((cp x).drop b) = a + 1 + n, fun _ _ w => w, ?_⟩
        refine ⟨.int b, rfl, b, 1, rfl, rfl, (cp x).length - (b + 1), by omega, b + 1, rfl, rfl, rfl, lt, ?_⟩
        rw [← he, drop_at hc, span_pos hin]
        omega
      | false =>
        rw [drop_at hc, span_neg hin] at he
        have eb : b = a + 1 + n := by omega
        rw [drop_get, ← eb, hc] at q
        have nq : decide (V.int (b : Int) = V.int (x.length : Int)) = false := decide_eq_false (by intro z; cases z; omega)
        refine iteF ⟨.int b, rfl, .str x, rfl, x, rfl, most_line (by rw [← cp_len]; exact hl), rfl, _, rfl, ?_⟩
        rw [nq]
        refine iteF ⟨.str x, rfl, .int b, rfl, x, b, c, rfl, rfl, by omega, by omega, lt', hc', rfl, _, rfl, ?_⟩
        rw [dec_sign c 34 _ (by decide +kernel)]
        by_cases ec : c = 34
        · subst ec
          refine iteF ⟨.int b, rfl, .int a, rfl, _, _, rfl, rfl, _, _, rfl, rfl, _, _, rfl, rfl, _, rfl, ?_⟩
          by_cases e6 : n ≤ 60
          · rw [if_pos ⟨rfl, e6⟩] at q
            rw [decide_eq_false (by omega)]
            refine iteF ⟨.int b, rfl, _, _, rfl, rfl, ?_⟩
            rw [show ((a + (n + 2) : Nat) : Int) = (b : Int) + 1 by omega] at q
            exact q
          · rw [if_neg (fun z => e6 z.2)] at q
            rw [decide_eq_true (by omega)]
            exact iteT ⟨.int a, rfl, q⟩
        · rw [if_neg (fun z => ec (Option.some.inj z.1))] at q
          rw [decide_eq_false ec]
          exact iteT (iteT ⟨.int a, rfl, q⟩)
    · have ge : ¬ b < (cp x).length := fun z => e1 (decide_eq_true z)
      rw [List.drop_eq_nil_of_le (by omega), span_nil] at he
      have eb : b = a + 1 + n := by omega
      rw [drop_get, ← eb, List.getElem?_eq_none (by omega), if_neg (fun z => nomatch z.1)] at q
      have nq : decide (V.int (b : Int) = V.int (x.length : Int)) = true := decide_eq_true (by rw [show (b : Int) = (x.length : Int) by omega])
      refine iteF ⟨.int b, rfl, .str x, rfl, x, rfl, most_line (by rw [← cp_len]; exact hl), rfl, _, rfl, ?_⟩
      rw [nq]
      exact iteT (iteT ⟨.int a, rfl, q⟩)

end
end K2

set_option maxHeartbeats 2000000
/-! The scanner: where it stands, its error, its first methods. -/
namespace K9
open PySem PySem.Spec PyProof.Rows L2 K2

/-! ### where a scanner stands -/
theorem aw : ¬ (("whole" : Str) = "at") := by decide +kernel
def flds (x : Str) (a : Int) : List (Str × V) := putF "at" (.int a) (putF "whole" (.str x) [])
theorem flds_eq (x : Str) (a : Int) : flds x a = ([("whole", V.str x), ("at", V.int a)] : List (Str × V)) := by
  show (if ("whole" : Str) = "at" then [(("whole" : Str), V.int a)] else (("whole" : Str), V.str x) :: putF "at" (V.int a) []) = ([("whole", V.str x), ("at", V.int a)] : List (Str × V))
  rw [if_neg aw]
  all_goals rfl
theorem flds_whole (x : Str) (a : Int) : (flds x a).lookup ("whole" : Str) = some (.str x) := by
  unfold flds
  rw [lookup_putF, if_neg aw, lookup_putF, if_pos rfl]
theorem flds_at (x : Str) (a : Int) : (flds x a).lookup ("at" : Str) = some (.int a) := by
  unfold flds
  rw [lookup_putF, if_pos rfl]
theorem flds_no (x : Str) (a : Int) {m : Str} (h1 : ¬ m = "at") (h2 : ¬ m = "whole") : (flds x a).lookup m = none := by
  unfold flds
  rw [lookup_putF, if_neg h1, lookup_putF, if_neg h2]
  all_goals rfl
theorem flds_put (x : Str) (a b : Int) : putF "at" (.int b) (flds x a) = flds x b := by
  rw [flds_eq, flds_eq]
  show (if ("whole" : Str) = "at" then _ else (("whole" : Str), V.str x) :: (if ("at" : Str) = "at" then [(("at" : Str), V.int b)] else _)) = ([("whole", V.str x), ("at", V.int b)] : List (Str × V))
  rw [if_neg aw, if_pos rfl]
theorem flds_len (x : Str) (a : Int) : (flds x a).length < 1000 := by rw [flds_eq]; show 2 < 1000; decide

/-- where: a signs of x are behind, l is left -/
structure Pos (x : Str) (a : Nat) (l : List Nat) : Prop where
  le : a ≤ (cp x).length
  eq : (cp x).drop a = l
  sm : (cp x).length ≤ most
theorem Pos.len {x : Str} {a : Nat} {l : List Nat} (h : Pos x a l) : a + l.length = (cp x).length := by
  have := congrArg List.length h.eq
  rw [List.length_drop] at this
  have := h.le
  omega
theorem Pos.go {x : Str} {a : Nat} {s l : List Nat} (h : Pos x a (s ++ l)) : Pos x (a + s.length) l := by
  have e := h.len
  rw [List.length_append] at e
  refine ⟨by omega, ?_, h.sm⟩
  rw [← List.drop_drop, h.eq, List.drop_left]
/-- a scanner over x at p, l is left -/
def Sc (C : Addr) (H : Hp) (p : Addr) (x : Str) (l : List Nat) : Prop := ∃ (dx : Addr) (a : Nat), H p = some (.ins C dx (flds x (a : Int))) ∧ Pos x a l
/-- the error of the text -/
def Err (CB p : Addr) (x : Str) (H : Hp) (E : XK) : Prop := ∀ d H', Kept p H H' → H' d = some (.xd [("value", V.str x)]) → E (.ref CB) (some d) H'
theorem Err.of {CB p : Addr} {x : Str} {H H1 : Hp} {E : XK} (e : Err CB p x H E) (k : Kept p H H1) : Err CB p x H1 E := fun d H' k' hd => e d H' (k.trans k') hd

/-- what the text says of the classes -/
structure Txt (K : PySem.W.Frag) (mg : Str → Option Value) (C CB fB : Addr) : Prop where
  cl : Cls K C
  nW : NoAttr K C "whole"
  nA : NoAttr K C "at"
  gC : mg "Scanner" = some (.ref C)
  gB : mg "BadText" = some (.ref CB)
  ox : OexC K CB
  iB : PySem.W.findIn K (.ref CB) "__init__" = some (some (.ref fB))
  tB : PySem.W.typeIn K (.ref fB) = some (.type "function")
  nV : PySem.W.findIn K (.ref CB) "value" = some none

/-! ### the promises -/
def spBadI (C : Addr) : Sp := fun vs H Q _ => ∃ (a : Addr) (v : V), vs = [.ref a, v] ∧ H a = some (exo a C none) ∧
  ∀ dx, H dx = none → dx ≠ a → Q .non (upd (upd H dx (exd dx [("value", v)])) a (exo a C (some dx)))
def spInit (C : Addr) : Sp := fun vs H Q _ => ∃ (p dx : Addr) (x : Str), vs = [.ref p, .str x] ∧ H p = some (.ins C dx []) ∧ (cp x).length ≤ most ∧
  ∀ H', Kept p H H' → Sc C H' p x (cp x) → Q .non H'
def spRefuse (C CB : Addr) : Sp := fun vs H Q E => ∃ p x l, vs = [.ref p] ∧ Sc C H p x l ∧ Err CB p x H E
def spSees (C : Addr) : Sp := fun vs H Q _ => ∃ p x l s, vs = [.ref p, .str s] ∧ Sc C H p x l ∧ (cp s).length ≤ 100 ∧ Q (.bl (acc (cp s) l).isSome) H
def spAcc (C : Addr) : Sp := fun vs H Q _ => ∃ p x l s, vs = [.ref p, .str s] ∧ Sc C H p x l ∧ (cp s).length ≤ 100 ∧
  (∀ H' l', acc (cp s) l = some l' → Kept p H H' → Sc C H' p x l' → Q (.bl true) H') ∧ (acc (cp s) l = none → Q (.bl false) H)
def spExp (C CB : Addr) : Sp := fun vs H Q E => ∃ p x l s, vs = [.ref p, .str s] ∧ Sc C H p x l ∧ (cp s).length ≤ 100 ∧
  (∀ H' l', acc (cp s) l = some l' → Kept p H H' → Sc C H' p x l' → Q .non H') ∧ (acc (cp s) l = none → Err CB p x H E)
def spEndS (C CB : Addr) : Sp := fun vs H Q E => ∃ p x l, vs = [.ref p] ∧ Sc C H p x l ∧ (l = [] → Q .non H) ∧ (l ≠ [] → Err CB p x H E)
def spTo (C : Addr) : Sp := fun vs H Q _ => ∃ (p : Addr) (x : Str) (dx : Addr) (a : Nat) (s l : List Nat), vs = [.ref p, .int ((a + s.length : Nat) : Int)] ∧ H p = some (.ins C dx (flds x (a : Int))) ∧ Pos x a (s ++ l) ∧
  ∀ H' y, Kept p H H' → Sc C H' p x l → cp y = s → Q (.str y) H'
/-- a reader's promise -/
def spRd {α : Type} (C CB : Addr) (r : List Nat → Option (α × List Nat)) (rep : Hp → V → α → Prop) (us : List V) : Sp := fun vs H Q E => ∃ p x l, vs = .ref p :: us ∧ Sc C H p x l ∧
  (∀ H' v d l', r l = some (d, l') → Kept p H H' → Sc C H' p x l' → rep H' v d → Q v H') ∧ (r l = none → Err CB p x H E)

/-! ### texts -/
theorem cp_of (l : List Nat) : cp ⟨l.toArray⟩ = l := by simp [cp]
theorem str_of {y : Str} {l : List Nat} (h : cp y = l) : y = ⟨l.toArray⟩ := by
  cases y with
  | mk a =>
    subst h
    simp [cp]
theorem cp_inj {y z : Str} (h : cp y = cp z) : y = z := by
  rw [str_of h, str_of (rfl : cp z = cp z)]
theorem dec_str (y z : Str) : decide (V.str y = V.str z) = decide (cp y = cp z) := by
  by_cases h : cp y = cp z
  · rw [decide_eq_true h, decide_eq_true (congrArg V.str (cp_inj h))]
  · rw [decide_eq_false h, decide_eq_false (fun e => h (by cases e; rfl))]
theorem acc_take {s l : List Nat} : (acc s l).isSome = decide (l.take s.length = s) := by
  unfold acc
  by_cases h : s.isPrefixOf l = true
  · rw [if_pos h]
    obtain ⟨t, ht⟩ := List.isPrefixOf_iff_prefix.mp h
    rw [← ht, List.take_left, decide_eq_true rfl]
    rfl
  · rw [if_neg h, decide_eq_false]
    · rfl
    · intro e
      refine h (List.isPrefixOf_iff_prefix.mpr ⟨l.drop s.length, ?_⟩)
      have := List.take_append_drop s.length l
      rw [e] at this
      exact this
/-- a part of a text, its end perhaps behind it -/
theorem cut_any (x : Str) (a b : Nat) (h1 : a ≤ (cp x).length) : cp (cutS x (some (a : Int)) (some ((a + b : Nat) : Int))) = ((cp x).drop a).take b := by
  have ll := cp_len x
  unfold cutS
  rw [HT.sIx_nat, HT.sIx_nat, cp_of]
  have e0 : x.cps.toList = cp x := rfl
  have e1 : min a x.length = a := by omega
  rw [e0, e1]
  by_cases h : a + b ≤ x.length
  · rw [show min (a + b) x.length = a + b by omega, show a + b - a = b by omega]
  · rw [show min (a + b) x.length = x.length by omega, List.take_of_length_le (by rw [List.length_drop]; omega), List.take_of_length_le (by rw [List.length_drop]; omega)]
end K9

set_option maxHeartbeats 2000000
/-! The scanner's first methods. -/
namespace K9
open PySem PySem.Spec PyProof.Rows L2 K2

theorem scBI : FnScope ["self", "value"] ["self", "value"] (defScope sBadInit) := ⟨rfl, rfl, rfl, by decide +kernel, rfl, by decide +kernel, by decide +kernel⟩
theorem scInit : FnScope ["self", "whole"] ["self", "whole"] (defScope mInit) := ⟨rfl, rfl, rfl, by decide +kernel, rfl, by decide +kernel, by decide +kernel⟩
theorem scRef : FnScope ["self"] ["self"] (defScope mRefuse) := ⟨rfl, rfl, rfl, by decide +kernel, rfl, by decide +kernel, by decide +kernel⟩
theorem scSees : FnScope ["self", "sign"] ["self", "sign"] (defScope mSees) := ⟨rfl, rfl, rfl, by decide +kernel, rfl, by decide +kernel, by decide +kernel⟩
theorem scAcc : FnScope ["self", "sign"] ["self", "sign"] (defScope mAccepts) := ⟨rfl, rfl, rfl, by decide +kernel, rfl, by decide +kernel, by decide +kernel⟩
theorem scExp : FnScope ["self", "sign"] ["self", "sign"] (defScope mExpect) := ⟨rfl, rfl, rfl, by decide +kernel, rfl, by decide +kernel, by decide +kernel⟩
theorem scEnd : FnScope ["self"] ["self"] (defScope mEnd) := ⟨rfl, rfl, rfl, by decide +kernel, rfl, by decide +kernel, by decide +kernel⟩
theorem scTo : FnScope ["self", "end", "taken"] ["self", "end"] (defScope mTo) := ⟨rfl, rfl, rfl, by decide +kernel, rfl, by decide +kernel, by decide +kernel⟩

section
variable {P : Program} {w : World} {K : PySem.W.Frag} {mg : Str → Option Value} {base : Heap} {C CB fB : Addr}

theorem ok_badI {f : Addr} {fd : FuncData} (F : Fun K "__init__" "BadText.__init__" sBadInit f fd) (T : Txt K mg C CB fB) :
    FnOk P w K mg base CX0 1 f fd ["self", "value"] (spBadI CB) := by
  refine F.ok scBI (fun vs H Q E h => ?_) (fun cdv A outer s H vs Q E hr h => ?_)
  · obtain ⟨a, v, rfl, _⟩ := h
    rfl
  · obtain ⟨a, v, rfl, ha, q⟩ := h
    refine ⟨_, pss_one (ps_ost (pv 0) (pv 1)), ?_⟩
    exact ⟨v, rfl, .ref a, rfl, a, CB, rfl, T.ox, T.nV, .inl ⟨ha, q⟩⟩

theorem ok_init {f : Addr} {fd : FuncData} (F : Fun K "__init__" "Scanner.__init__" mInit f fd) (T : Txt K mg C CB fB) :
    FnOk P w K mg base CX0 1 f fd ["self", "whole"] (spInit C) := by
  refine F.ok scInit (fun vs H Q E h => ?_) (fun cdv A outer s H vs Q E hr h => ?_)
  · obtain ⟨p, dx, x, rfl, _⟩ := h
    rfl
  · obtain ⟨p, dx, x, rfl, hp, hm, q⟩ := h
    refine ⟨_, pss_cons (ps_fld (pv 0) (pv 1) rfl) (pss_one (ps_fld (pv 0) pe_int rfl)), ?_⟩
    refine ⟨.str x, rfl, .ref p, rfl, p, C, dx, [], rfl, hp, T.cl, T.nW, (by show 0 < 1000; decide), ?_⟩
    refine ⟨.ref p, rfl, p, C, dx, _, rfl, upd_same, T.cl, T.nA, (by show 1 < 1000; decide), ?_⟩
    refine q _ (Kept.refl p H).upd.upd ⟨dx, 0, upd_same, ⟨Nat.zero_le _, rfl, hm⟩⟩

theorem ok_refuse {f : Addr} {fd fdB : FuncData} (F : Fun K "refuse" "Scanner.refuse" mRefuse f fd) (T : Txt K mg C CB fB)
    (FB : Fun K "__init__" "BadText.__init__" sBadInit fB fdB) (bB : Binds K fdB ["self", "value"] []) :
    FnOk P w K mg base (CX P w) 3 f fd ["self"] (spRefuse C CB) := by
  have GB : FnOk P w K mg base CX0 1 fB fdB ["self", "value"] (spBadI CB) := ok_badI FB T
  refine F.okX scRef (fun vs H Q E h => ?_) (fun cdv A outer s H vs Q E hr h => ?_)
  · obtain ⟨p, x, l, rfl, _⟩ := h
    rfl
  · obtain ⟨p, x, l, rfl, ⟨dx, a, hp, ps⟩, e⟩ := h
    refine ⟨_, pss_one (ps_raise rfl (takes_of rfl rfl rfl rfl) (pmk_oex T.ox T.iB T.tB GB hr bB .nil pass0 rfl T.gB (pa_cons (pe_fld (pv 0) rfl) pa_nil))), ?_⟩
    refine ⟨.ref p, rfl, p, C, dx, _, .str x, rfl, hp, T.cl, T.nW, flds_whole _ _, ?_⟩
    refine ⟨(by show 1 ≤ 1000; decide), fun b hb => ?_⟩
    refine ⟨b, .str x, rfl, upd_same, fun d hd db => ⟨rfl, d, [("value", V.str x)], upd_same, ?_, ?_, ?_⟩⟩
    · rw [upd_ne db, upd_same]
    · rw [upd_ne db] at hd
      exact hd
    · rw [upd_ne db] at hd
      refine e d _ (fun c o hc _ => ?_) upd_same
      have nb : c ≠ b := ne_of_none hc hb
      have nd : c ≠ d := ne_of_none hc hd
      rw [upd_ne nd]
      show (if c = b then none else _) = _
      rw [if_neg nb, upd_ne nb, upd_ne nd, upd_ne nb]
      exact hc

theorem ok_sees {f : Addr} {fd : FuncData} (F : Fun K "sees" "Scanner.sees" mSees f fd) (T : Txt K mg C CB fB) (Z : Bare mg) :
    FnOk P w K mg base CX0 1 f fd ["self", "sign"] (spSees C) := by
  refine F.ok scSees (fun vs H Q E h => ?_) (fun cdv A outer s H vs Q E hr h => ?_)
  · obtain ⟨p, x, l, z, rfl, _⟩ := h
    rfl
  · obtain ⟨p, x, l, z, rfl, ⟨dx, a, hp, ps⟩, hz, q⟩ := h
    refine ⟨_, pss_one (ps_ret (pe_cmpR op_eq (pe_slice sl_str (pe_fld (pv 0) rfl) (po_some (pe_fld (pv 0) rfl)) (po_some (pe_op op_add (pe_fld (pv 0) rfl)
      (pe_callB call_len_str (by rfl) Z.len PySem.boot_len (pa_cons (pv 1) pa_nil))))) (pv 1) (nomark _))), ?_⟩
    have zl : z.length ≤ sizeLine := Nat.le_trans (by rw [← cp_len]; exact hz) (by decide)
    refine ⟨.ref p, rfl, p, C, dx, _, .str x, rfl, hp, T.cl, T.nW, flds_whole _ _, ?_⟩
    refine ⟨.ref p, rfl, p, C, dx, _, .int a, rfl, hp, T.cl, T.nA, flds_at _ _, (a : Int), rfl, ?_⟩
    refine ⟨.ref p, rfl, p, C, dx, _, .int a, rfl, hp, T.cl, T.nA, flds_at _ _, .str z, rfl, z, rfl, zl, a, _, rfl, rfl, ?_⟩
    refine ⟨_, rfl, x, rfl, most_line (by rw [← cp_len]; exact ps.sm), .str z, rfl, rfl, ?_⟩
    show Q (V.bl (decide (V.str (cutS x (some (a : Int)) (some ((a : Int) + ((z.length : Nat) : Int)))) = V.str z))) H
    rw [← Int.natCast_add, dec_str, cut_any x a z.length ps.le, ps.eq, ← cp_len, ← acc_take]
    exact q

theorem ok_acc {f fS : Addr} {fd fdS : FuncData} (F : Fun K "accepts" "Scanner.accepts" mAccepts f fd) (T : Txt K mg C CB fB) (Z : Bare mg)
    (bS : Binds K fdS ["self", "sign"] []) (GS : FnOk P w K mg base CX0 1 fS fdS ["self", "sign"] (spSees C)) (mS : Meth K C "sees" fS) :
    FnOk P w K mg base CX0 2 f fd ["self", "sign"] (spAcc C) := by
  refine F.ok scAcc (fun vs H Q E h => ?_) (fun cdv A outer s H vs Q E hr h => ?_)
  · obtain ⟨p, x, l, z, rfl, _⟩ := h
    rfl
  · obtain ⟨p, x, l, z, rfl, hs, hz, q1, q2⟩ := h
    refine ⟨_, pss_cons (ps_if (pt_not (pt_val (pe_meth (pv 0) T.cl mS GS hr bS .nil pass0 (pa_cons (pv 1) pa_nil)))) (pss_one (ps_ret pe_bl)) pss_nil)
      (pss_cons (ps_fldaug (pv 0) (pe_callB call_len_str (by rfl) Z.len PySem.boot_len (pa_cons (pv 1) pa_nil)) ip_add)
      (pss_one (ps_ret pe_bl))), ?_⟩
    have zl : z.length ≤ sizeLine := Nat.le_trans (by rw [← cp_len]; exact hz) (by decide)
    obtain ⟨dx, a, hp, ps⟩ := id hs
    refine ⟨.ref p, rfl, p, dx, _, rfl, hp, flds_no _ _ (by decide +kernel) (by decide +kernel), .str z, rfl, p, x, l, z, rfl, hs, hz, _, rfl, ?_⟩
    cases e : acc (cp z) l with
    | none => exact iteT (q2 e)
    | some l' =>
      refine iteF ?_
      have el := acc_some e
      rw [el] at ps
      refine ⟨.ref p, rfl, p, C, dx, _, .int a, rfl, hp, T.cl, T.nA, flds_at _ _, .str z, rfl, z, rfl, zl, a, _, rfl, rfl, ?_⟩
      refine ⟨dx, _, hp, flds_len _ _, ?_⟩
      refine q1 _ l' e (Kept.refl p H).upd ⟨dx, a + (cp z).length, ?_, ps.go⟩
      rw [upd_same, flds_put, cp_len, Int.natCast_add]

theorem ok_exp {f fA fR : Addr} {fd fdA fdR : FuncData} (F : Fun K "expect" "Scanner.expect" mExpect f fd) (T : Txt K mg C CB fB)
    (bA : Binds K fdA ["self", "sign"] []) (GA : FnOk P w K mg base CX0 2 fA fdA ["self", "sign"] (spAcc C)) (mA : Meth K C "accepts" fA)
    (bR : Binds K fdR ["self"] []) (GR : FnOk P w K mg base (CX P w) 3 fR fdR ["self"] (spRefuse C CB)) (mR : Meth K C "refuse" fR) :
    FnOk P w K mg base (CX P w) 4 f fd ["self", "sign"] (spExp C CB) := by
  refine F.okX scExp (fun vs H Q E h => ?_) (fun cdv A outer s H vs Q E hr h => ?_)
  · obtain ⟨p, x, l, z, rfl, _⟩ := h
    rfl
  · obtain ⟨p, x, l, z, rfl, hs, hz, q1, q2⟩ := h
    refine ⟨_, pss_one (ps_if (pt_not (pt_val (pe_meth (pv 0) T.cl mA GA (hr.mono (by decide)) bA .nil pass0 (pa_cons (pv 1) pa_nil))))
      (pss_one (ps_expr (pe_meth0 (pv 0) T.cl mR GR hr bR .nil (passes_call (takes_of rfl rfl rfl rfl) fun _ _ _ _ z => z)))) pss_nil), ?_⟩
    obtain ⟨dx, a, hp, ps⟩ := id hs
    refine ⟨.ref p, rfl, p, dx, _, rfl, hp, flds_no _ _ (by decide +kernel) (by decide +kernel), .str z, rfl, p, x, l, z, rfl, hs, hz, fun H' l' e k s' => ⟨_, rfl, iteF ?_⟩, fun e => ⟨_, rfl, iteT ?_⟩⟩
    · exact q1 H' l' e k s'
    · exact ⟨.ref p, rfl, p, dx, _, rfl, hp, flds_no _ _ (by decide +kernel) (by decide +kernel), p, x, l, rfl, hs, q2 e⟩

theorem ok_end {f fR : Addr} {fd fdR : FuncData} (F : Fun K "expect_end" "Scanner.expect_end" mEnd f fd) (T : Txt K mg C CB fB) (Z : Bare mg)
    (bR : Binds K fdR ["self"] []) (GR : FnOk P w K mg base (CX P w) 3 fR fdR ["self"] (spRefuse C CB)) (mR : Meth K C "refuse" fR) :
    FnOk P w K mg base (CX P w) 4 f fd ["self"] (spEndS C CB) := by
  refine F.okX scEnd (fun vs H Q E h => ?_) (fun cdv A outer s H vs Q E hr h => ?_)
  · obtain ⟨p, x, l, rfl, _⟩ := h
    rfl
  · obtain ⟨p, x, l, rfl, hs, q1, q2⟩ := h
    refine ⟨_, pss_one (ps_if (pt_cmpR op_lt (pe_fld (pv 0) rfl) (pe_callB call_len_str (by rfl) Z.len PySem.boot_len (pa_cons (pe_fld (pv 0) rfl) pa_nil)) (nomark _))
      (pss_one (ps_expr (pe_meth0 (pv 0) T.cl mR GR hr bR .nil (passes_call (takes_of rfl rfl rfl rfl) fun _ _ _ _ z => z)))) pss_nil), ?_⟩
    obtain ⟨dx, a, hp, ps⟩ := id hs
    have pl := ps.len
    refine ⟨.ref p, rfl, p, C, dx, _, .int a, rfl, hp, T.cl, T.nA, flds_at _ _, .ref p, rfl, p, C, dx, _, .str x, rfl, hp, T.cl, T.nW, flds_whole _ _, x, rfl, most_line (by rw [← cp_len]; exact ps.sm), _, _, rfl, rfl, _, rfl, ?_⟩
    rw [lt_dec]
    refine ite2 (fun e1 => ?_) (fun e1 => ?_)
    · have lt : a < (cp x).length := of_decide_eq_true e1
      refine ⟨.ref p, rfl, p, dx, _, rfl, hp, flds_no _ _ (by decide +kernel) (by decide +kernel), p, x, l, rfl, hs, q2 ?_⟩
      rintro rfl
      rw [List.length_nil] at pl
      omega
    · have ge : ¬ a < (cp x).length := fun z => e1 (decide_eq_true z)
      exact q1 (List.eq_nil_of_length_eq_zero (by omega))

theorem ok_to {f : Addr} {fd : FuncData} (F : Fun K "take_to" "Scanner.take_to" mTo f fd) (T : Txt K mg C CB fB) :
    FnOk P w K mg base CX0 1 f fd ["self", "end"] (spTo C) := by
  refine F.ok scTo (fun vs H Q E h => ?_) (fun cdv A outer s H vs Q E hr h => ?_)
  · obtain ⟨p, x, dx, a, s, l, rfl, _⟩ := h
    rfl
  · obtain ⟨p, x, dx, a, s, l, rfl, hp, ps, q⟩ := h
    refine ⟨_, pss_cons (ps_set (i := 2) scTo.nd rfl (.inl rfl) (pe_slice sl_str (pe_fld (pv 0) rfl) (po_some (pe_fld (pv 0) rfl)) (po_some (pv 1))))
      (pss_cons (ps_fld (pv 0) (pv 1) rfl) (pss_one (ps_ret (pv 2)))), ?_⟩
    refine ⟨.ref p, rfl, p, C, dx, _, .str x, rfl, hp, T.cl, T.nW, flds_whole _ _, ?_⟩
    refine ⟨.ref p, rfl, p, C, dx, _, .int a, rfl, hp, T.cl, T.nA, flds_at _ _, (a : Int), rfl, _, rfl, _, rfl, x, rfl, most_line (by rw [← cp_len]; exact ps.sm), ?_⟩
    refine ⟨_, rfl, .ref p, rfl, p, C, dx, _, rfl, hp, T.cl, T.nA, flds_len _ _, ?_⟩
    refine ⟨_, rfl, ?_⟩
    refine q _ _ (Kept.refl p H).upd ⟨dx, a + s.length, ?_, ps.go⟩ ?_
    · rw [upd_same, flds_put]
    · rw [cut_any x a s.length ps.le, ps.eq, List.take_left]

end
end K9

set_option maxHeartbeats 2000000
/-! is_name; the numbers' reader. -/
namespace K9
open PySem PySem.Spec PyProof.Rows L2 K2

def lets : Str := "abcdefghijklmnopqrstuvwxyz"
def shutS : List Str := ["\x69mport", "template", "list", "document", "let", "new", "for", "in", "where", "give", "if", "then", "else"]
def isNm (x : Str) : Bool := decide (1 ≤ x.length ∧ x.length ≤ 12) && x.cps.toList.all isLet && !inV (.str x) (shutS.map V.str)
theorem isNm_len {x : Str} (h : ¬ (1 ≤ x.length ∧ x.length ≤ 12)) : isNm x = false := by
  unfold isNm
  rw [decide_eq_false h]
  rfl
theorem isNm_all {x : Str} (h : x.cps.toList.all isLet = false) : isNm x = false := by
  unfold isNm
  rw [h, Bool.and_false]
  rfl
theorem isNm_eq {x : Str} (h : 1 ≤ x.length ∧ x.length ≤ 12) (h2 : x.cps.toList.all isLet = true) :
    isNm x = !inV (.str x) (shutS.map V.str) := by
  unfold isNm
  rw [decide_eq_true h, h2]
  rfl
theorem shut_flat : (shutS.map V.str).all flatV = true := by decide +kernel
theorem shut_cp : shutS.map cp = shut := by decide +kernel
theorem inV_shut (x : Str) : inV (.str x) (shutS.map V.str) = shut.contains (cp x) := by
  rw [← shut_cp]
  generalize shutS = L
  induction L with
  | nil => rfl
  | cons y r ih =>
    show inV (.str x) (V.str y :: r.map V.str) = (cp y :: r.map cp).contains (cp x)
    rw [List.contains_cons]
    unfold inV at ih ⊢
    rw [List.any_cons, ih]
    congr 1
    show eqV (V.str y) (V.str x) = (cp x == cp y)
    show (y == x) = (cp x == cp y)
    by_cases h : cp x = cp y
    · rw [h, cp_inj h]
      simp
    · have h2 : ¬ y = x := fun e => h (by rw [e])
      rw [beq_eq_false_iff_ne.mpr h2, beq_eq_false_iff_ne.mpr h]
theorem isNm_is (x : Str) : isNm x = nameOk (cp x) := by
  unfold isNm nameOk
  rw [inV_shut, cp_len]
  by_cases h1 : 1 ≤ x.length
  · by_cases h2 : x.length ≤ 12
    · rw [decide_eq_true ⟨h1, h2⟩, decide_eq_true h1, decide_eq_true h2]
      rfl
    · rw [decide_eq_false (fun z => h2 z.2), decide_eq_false h2, Bool.and_false]
  · rw [decide_eq_false (fun z => h1 z.1), decide_eq_false h1]
    simp
theorem let_in (c : Nat) : decide (c ∈ lets.cps.toList) = isLet c := letters_is c

structure Cons (K : PySem.W.Frag) (mg : Str → Option Value) : Prop where
  let_ : ∃ t, mg "LETTERS" = some (.str lets t)
  long : ∃ t, mg "LONGEST_NAME" = some (.int 12 t)
  words : ∃ p, mg "WORDS" = some (.ref p) ∧ ∀ H, SqT K H p (shutS.map V.str)

theorem scNm : FnScope ["value", "letter"] ["value"] (defScope sIsName) :=
  ⟨rfl, rfl, rfl, by decide +kernel, rfl, by decide +kernel, by decide +kernel⟩
def spNm : Sp := fun vs H Q _ => ∃ x : Str, vs = [.str x] ∧ (cp x).length ≤ most ∧ ∀ H', Same H H' → Q (.bl (nameOk (cp x))) H'

section
variable {P : Program} {w : World} {K : PySem.W.Frag} {mg : Str → Option Value} {base : Heap}
theorem ok_is {f : Addr} {fd : FuncData} (F : Fun K "is_name" "is_name" sIsName f fd) (Z : Bare mg) (C : Cons K mg) :
    FnOk P w K mg base CX0 1 f fd ["value"] spNm := by
  obtain ⟨tl, hL⟩ := C.let_
  obtain ⟨tn, hN⟩ := C.long
  obtain ⟨pw, hW, sW⟩ := C.words
  refine F.ok scNm (fun vs H Q E h => ?_) (fun cdv A outer s H vs Q E hr h => ?_)
  · obtain ⟨x, rfl, _⟩ := h
    rfl
  · obtain ⟨x, rfl, hm, q⟩ := h
    have hp : x.length ≤ sizeLine := most_line (by rw [← cp_len]; exact hm)
    rw [← isNm_is] at q
    refine ⟨_, pss_cons (ps_if (PW.pt (pw_or (pt_not (pt_val (pe_callB call_isi (by rfl) Z.isin (by decide +kernel)
          (pa_cons (pv 0) (pa_cons (pe_bltn (v := .ty "str") (by rfl) Z.str (by decide +kernel) rfl) pa_nil)))))
        (pw_or1 (pt_not (pt_chain op_le op_le pe_int (pe_callB call_len_str (by rfl) Z.len PySem.boot_len (pa_cons (pv 0) pa_nil))
          (pe_glob (v := .int 12) (by rfl) hN ⟨tn, rfl⟩))))))
        (pss_one (ps_ret pe_bl)) pss_nil)
      (pss_one (ps_ret (pe_and (pe_callB (cr_all rfl) (by rfl) Z.all (by decide +kernel) (pa_cons
          (pe_lc (own := [("letter", 1)]) (g := gName 1) (tt := tYes) rfl scNm.nd (pi_str (pv 0))
            (blkOk_by (N := ["value", "letter"]) (sc := defScope sIsName) (by decide +kernel))
            (fun _ _ _ _ _ => pg_name (i := 1) scNm.nd rfl (Or.inl rfl)) (fun _ _ _ _ _ => pts_nil)
            (fun _ _ _ _ _ => pe_cmpR op_in_sign (pv 1) (pe_glob (v := .str lets) (by rfl) hL ⟨tl, rfl⟩) (by with_unfolding_all rfl))) pa_nil))
        (pe_one (pe_cmpR op_notIn_seq (pv 0) (pe_glob (v := .ref pw) (by rfl) hW rfl) (by with_unfolding_all rfl)))))), ?_⟩
    refine ⟨.str x, rfl, .str x, .ty "str", .type "str", .type "str", true, rfl, .ty "str", .base (.str x), kit_ty (by decide +kernel), _, rfl, ?_⟩
    have hz : x.length ≤ sizeLine := hp
    refine ⟨.str x, rfl, x, rfl, hz, 1, _, rfl, rfl, _, rfl, ?_⟩
    refine ite2 (fun e1 => ?_) (fun e1 => ?_)
    · have h1 : 1 ≤ (x.length : Int) := of_decide_eq_true e1
      refine ⟨_, _, rfl, rfl, _, rfl, ?_⟩
      refine ite2 (fun e2 => ?_) (fun e2 => ?_)
      · have h2 : ¬ (x.length : Int) ≤ 12 := by
          intro z
          rw [decide_eq_true z] at e2
          cases e2
        have n : isNm x = false := isNm_len (by omega)
        have q' := q H (Same.refl H)
        rw [n] at q'
        exact q'
      · have h2 : (x.length : Int) ≤ 12 := by
          by_cases z : (x.length : Int) ≤ 12
          · exact z
          · exact absurd (by rw [decide_eq_false z]; rfl) e2
        have hs : x.cps.toList.length = x.length := by simp [Str.length]
        refine ⟨.str x, rfl, x, rfl, fun D hD => lc_it (walk_str (z := x))
          (fun i H' => H' = upd H D (.lst ((x.cps.toList.take i).map fun c => V.bl (isLet c)))) rfl (fun _ _ _ _ => True.intro) ?_ ?_⟩
        · rintro i v H1 H2 hi rfl ⟨rfl, c, hc, rfl⟩
          refine ⟨rfl, ?_⟩
          have hc' : x.cps.toList[i]? = some c := by simpa using hc
          refine ⟨.str ⟨#[c]⟩, rfl, c, lets, rfl, rfl, _, upd_same, ?_, ?_⟩
          · rw [List.length_map, List.length_take, hs]
            exact Nat.lt_of_le_of_lt (Nat.min_le_right _ _) (small1000 (by omega))
          · rw [upd_upd, List.take_add_one, hc', List.map_append, let_in]
            rfl
        · rintro H1 rfl
          have et : x.cps.toList.take x.cps.size = x.cps.toList := List.take_of_length_le (by simp)
          refine ⟨D, x.cps.toList.map isLet, rfl, ?_, ?_⟩
          · rw [et]
            refine SqL.of ?_
            rw [upd_same, List.map_map]
            rfl
          · have sm : Same H (upd H D (.lst ((x.cps.toList.take x.cps.size).map fun c => V.bl (isLet c)))) := same_upd hD
            have ea : (x.cps.toList.map isLet).all id = x.cps.toList.all isLet := by
              rw [List.all_map]
              rfl
            refine ⟨_, rfl, ite2 (fun e3 => ?_) (fun e3 => ?_)⟩
            · refine ⟨.str x, rfl, pw, _, rfl, .inr (sW _), rfl, shut_flat, ?_⟩
              have q' := q _ sm
              rw [isNm_eq (by omega) (ea ▸ e3)] at q'
              exact q'
            · have q' := q _ sm
              rw [isNm_all (by rw [← ea]; exact Bool.eq_false_iff.mpr e3)] at q'
              exact q'
    · have h1 : ¬ 1 ≤ (x.length : Int) := fun z => e1 (decide_eq_true z)
      refine ⟨_, rfl, ?_⟩
      have n : isNm x = false := isNm_len (by omega)
      have q' := q H (Same.refl H)
      rw [n] at q'
      exact q'
end
end K9

set_option maxHeartbeats 2000000
/-! number_in; the readers of words, names, numbers, serials, literals. -/
namespace K9
open PySem PySem.Spec PyProof.Rows L2 K2
open PySem.NumText (digitsVal AllDigits)

theorem val_from (b : List Nat) : ∀ n : Nat, b.foldl (fun acc c => acc * 10 + (c - 48)) n = n * 10 ^ b.length + digitsVal b := by
  induction b with
  | nil => intro n; show n = n * 1 + 0; omega
  | cons c r ih =>
    intro n
    unfold digitsVal
    rw [List.foldl_cons, List.foldl_cons, ih, ih (0 * 10 + (c - 48)), List.length_cons, Nat.pow_succ]
    generalize digitsVal r = v
    generalize hz : 10 ^ r.length = z
    rw [Nat.add_mul, Nat.zero_mul, Nat.zero_add, Nat.mul_assoc, Nat.mul_comm 10 z]
    omega
theorem val_app (a b : List Nat) : digitsVal (a ++ b) = digitsVal a * 10 ^ b.length + digitsVal b := by
  unfold digitsVal
  rw [List.foldl_append, val_from]
  rfl
theorem val_lt : ∀ {a : List Nat}, AllDigits a → digitsVal a < 10 ^ a.length := by
  intro a
  induction a with
  | nil => intro _; decide
  | cons c r ih =>
    intro h
    have h1 := h c List.mem_cons_self
    have h2 := ih fun d hd => h d (List.mem_cons_of_mem _ hd)
    have e := val_app [c] r
    rw [show [c] ++ r = c :: r from rfl] at e
    rw [e, List.length_cons, Nat.pow_succ, show digitsVal [c] = c - 48 by simp [digitsVal]]
    generalize 10 ^ r.length = z at h2 ⊢
    have : (c - 48) * z ≤ 9 * z := Nat.mul_le_mul_right _ (by omega)
    omega
theorem cut_lo (x : Str) (b : Nat) : cp (cutS x none (some (b : Int))) = (cp x).take b := by
  have ll := cp_len x
  unfold cutS
  rw [HT.sIx_nat, cp_of]
  have e0 : x.cps.toList = cp x := rfl
  have e1 : HT.sIx x.length 0 none = 0 := rfl
  rw [e0, e1, List.drop_zero, Nat.sub_zero]
  by_cases h : b ≤ x.length
  · rw [Nat.min_eq_left h]
  · rw [Nat.min_eq_right (by omega), List.take_of_length_le (by omega), List.take_of_length_le (by omega)]

theorem piece {z : Str} {d : List Nat} (h : cp z = d) (ad : AllDigits d) (ne : d ≠ []) (l : d.length ≤ 64) : intText? z = some ((digitsVal d : Nat) : Int) ∧ z.length ≤ 640 := by
  have hl := cp_len z
  subst h
  exact ⟨intText_digits ad ne (by omega), by omega⟩
theorem exact_val {t : TE} {v : V} {σ : L2.St} {H : Hp} {Q : VK} (h : ∀ Q' : VK, Q' v H → t σ H Q') (hq : Q v H) : t σ H Q := h Q hq
theorem scNI : FnScope ["digits", "end", "number"] ["digits"] (defScope sNumIn) :=
  ⟨rfl, rfl, rfl, by decide +kernel, rfl, by decide +kernel, by decide +kernel⟩
def spNumIn : Sp := fun vs H Q _ => ∃ y : Str, vs = [.str y] ∧ AllDigits (cp y) ∧ 1 ≤ (cp y).length ∧ (cp y).length ≤ 1000 ∧ Q (.int ((digitsVal (cp y) : Nat) : Int)) H

theorem log_small {n k : Nat} (h : n < 10 ^ k) (hk : k ≤ 1000) : n.log2 < 4000 := by
  by_cases z : n = 0
  · subst z
    decide
  · refine (Nat.log2_lt z).mpr (Nat.lt_of_lt_of_le h ?_)
    have : (10 : Nat) ^ k ≤ 16 ^ k := Nat.pow_le_pow_left (by decide) k
    refine Nat.le_trans this ?_
    rw [show (16 : Nat) = 2 ^ 4 from rfl, ← Nat.pow_mul]
    exact Nat.pow_le_pow_right (by decide) (by omega)

section
variable {P : Program} {w : World} {K : PySem.W.Frag} {mg : Str → Option Value} {base : Heap}
theorem ok_numIn {f : Addr} {fd : FuncData} (F : Fun K "number_in" "number_in" sNumIn f fd) (Z : Bare mg) (N : Names mg)
    (hU : ∃ t, mg "UNIT" = some (.int (10 ^ 64) t)) :
    FnOk P w K mg base CX0 1 f fd ["digits"] spNumIn := by
  obtain ⟨ta, ga⟩ := N.ato
  obtain ⟨tu, gu⟩ := hU
  refine F.ok scNI (fun vs H Q E h => ?_) (fun cdv A outer s H vs Q E hr h => ?_)
  · obtain ⟨y, rfl, _⟩ := h
    rfl
  · obtain ⟨y, rfl, ad, h1, h2, q⟩ := h
    refine ⟨_, pss_cons (ps_set (i := 1) scNI.nd rfl (.inl rfl) (pe_op op_mod (pe_callB call_len_str (by rfl) Z.len PySem.boot_len (pa_cons (pv 0) pa_nil)) (pe_glob (v := .int 64) rfl ga ⟨_, rfl⟩)))
      (pss_cons (ps_set (i := 2) scNI.nd rfl (.inl rfl) (pe_ifExp (pt_cmpR op_eq (pv 1) pe_int (nomark _)) pe_int
        (pe_callTy call_int_str (by rfl) Z.int (by decide +kernel) (pa_cons (pe_slice sl_str (pv 0) po_none (po_some (pv 1))) pa_nil))))
      (pss_cons (ps_while PassesOwn.never (pt_cmpR op_lt (pv 1) (pe_callB call_len_str (by rfl) Z.len PySem.boot_len (pa_cons (pv 0) pa_nil)) (nomark _))
        (pss_cons (ps_set (i := 2) scNI.nd rfl (.inl rfl) (pe_op op_add (pe_op op_mulW (pv 2) (pe_glob (v := .int (10 ^ 64)) rfl gu ⟨_, rfl⟩))
          (pe_callTy call_int_str (by rfl) Z.int (by decide +kernel) (pa_cons (pe_slice sl_str (pv 0) (po_some (pv 1)) (po_some (pe_op op_add (pv 1) (pe_glob (v := .int 64) rfl ga ⟨_, rfl⟩)))) pa_nil))))
        (pss_one (ps_aug (i := 1) scNI.nd rfl (.inl rfl) (pe_glob (v := .int 64) rfl ga ⟨_, rfl⟩) ip_add))))
      (pss_one (ps_ret (pv 2))))), ?_⟩
    have yl : y.length ≤ sizeLine := Nat.le_trans (by rw [← cp_len]; exact h2) (by decide)
    have ey := cp_len y
    refine ⟨.str y, rfl, y, rfl, yl, _, 64, rfl, rfl, (by show (0 : Int) < 64; decide), ?_⟩
    obtain ⟨e, he⟩ : ∃ e : Nat, e = (cp y).length % 64 := ⟨_, rfl⟩
    have ee : ((y.length : Nat) : Int) % 64 = (e : Int) := by omega
    show gName 1 (V.int (((y.length : Nat) : Int) % 64)) _ _ _
    rw [ee]
    have el : e ≤ (cp y).length := by omega
    have tk : ∀ n : Nat, AllDigits ((cp y).take n) := fun n c hc => ad c (List.mem_of_mem_take hc)
    unfold gName
    dsimp only
    unfold tSeq
    dsimp only
    unfold tAsg
    dsimp only
    refine exact_val (t := tIf _ _ _) (v := V.int ((digitsVal ((cp y).take e) : Nat) : Int)) (fun Q' q' => ?_) ?_
    · refine ⟨_, rfl, rfl, _, rfl, ?_⟩
      by_cases z : e = 0
      · subst z
        refine iteT ?_
        exact q'
      · rw [decide_eq_false (by intro c; injection c with c; omega)]
        refine iteF ⟨.str y, rfl, _, rfl, _, rfl, y, rfl, yl, ?_⟩
        have ne : (cp y).take e ≠ [] := by
          intro c
          have := congrArg List.length c
          rw [List.length_take, List.length_nil] at this
          omega
        obtain ⟨t1, t2⟩ := piece (cut_lo y e) (tk e) ne (by rw [List.length_take]; omega)
        exact ⟨_, _, rfl, t1, t2, q'⟩
    · refine ⟨fun m σ H' => ∃ b : Nat, m = (cp y).length - b ∧ σ = [some (.str y), some (.int b), some (.int ((digitsVal ((cp y).take b) : Nat) : Int))] ∧ H = H' ∧ b ≤ (cp y).length ∧ ((cp y).length - b) % 64 = 0, ⟨_, e, rfl, rfl, rfl, el, by omega⟩, ?_⟩
      rintro m σ H' ⟨b, rfl, rfl, rfl, hb, h64⟩
      refine ⟨.int b, rfl, .str y, rfl, y, rfl, yl, _, _, rfl, rfl, _, rfl, ?_⟩
      rw [lt_dec]
      refine ite2 (fun e1 => ?_) (fun e1 => ?_)
      · have lt : b < (cp y).length := of_decide_eq_true e1
        refine ⟨fun σ' H' => ∃ m', m' < (cp y).length - b ∧ ∃ b : Nat, m' = (cp y).length - b ∧ σ' = [some (.str y), some (.int b), some (.int ((digitsVal ((cp y).take b) : Nat) : Int))] ∧ H = H' ∧ b ≤ (cp y).length ∧ ((cp y).length - b) % 64 = 0, fun _ _ w => w, ?_⟩
        have tl := val_lt (tk b)
        rw [List.length_take] at tl
        refine ⟨_, rfl, _, _, rfl, rfl, ?_, .str y, rfl, .int b, rfl, _, rfl, .int b, rfl, _, _, rfl, rfl, _, rfl, y, rfl, yl, ?_⟩
        · show (Int.natAbs _).log2 + _ < 1000000
          rw [Int.natAbs_natCast]
          have := log_small tl (by omega)
          have h64 : ((10 : Int) ^ 64).natAbs.log2 < 1000 := by decide +kernel
          omega
        · have pd : AllDigits (((cp y).drop b).take 64) := fun c hc => ad c (List.mem_of_mem_drop (List.mem_of_mem_take hc))
          have pl : (((cp y).drop b).take 64).length = 64 := by
            rw [List.length_take, List.length_drop]
            omega
          have pe : cp (cutS y (some (b : Int)) (some ((b : Int) + 64))) = ((cp y).drop b).take 64 := cut_any y b 64 hb
          obtain ⟨t1, t2⟩ := piece pe pd (fun c => by rw [c] at pl; cases pl) (by omega)
          refine ⟨_, _, rfl, t1, t2, _, _, rfl, rfl, ?_⟩
          refine ⟨_, rfl, _, _, rfl, rfl, (cp y).length - (b + 64), by omega, b + 64, rfl, ?_, rfl, by omega, by omega⟩
          have ev : digitsVal ((cp y).take (b + 64)) = digitsVal ((cp y).take b) * 10 ^ 64 + digitsVal (((cp y).drop b).take 64) := by
            rw [List.take_add, val_app, pl]
          rw [ev, Int.natCast_add, Int.natCast_add, Int.natCast_mul]
          rfl
      · have ge : ¬ b < (cp y).length := fun z => e1 (decide_eq_true z)
        refine ⟨_, rfl, ?_⟩
        rw [List.take_of_length_le (by omega)]
        exact q
end
end K9

set_option maxHeartbeats 2000000
/-! The readers of words, names, numbers, serials, literals. -/
namespace K9
open PySem PySem.Spec PyProof.Rows L2 K2
open PySem.NumText (digitsVal AllDigits)

/-! ### data in the heap -/
mutual
inductive Rep (H : Hp) : V → D → Prop
  | int (i : Int) : Rep H (.int i) (.int i)
  | str (y : Str) : Rep H (.str y) (.str (cp y))
  | tup {t : Addr} {vs : List V} {ds : List D} : H t = some (.tup vs) → RepL H vs ds → Rep H (.ref t) (.tup ds)
inductive RepL (H : Hp) : List V → List D → Prop
  | nil : RepL H [] []
  | cons {v : V} {d : D} {vs : List V} {ds : List D} : Rep H v d → RepL H vs ds → RepL H (v :: vs) (d :: ds)
end
/-- the tuples stand as before -/
def TupK (H H' : Hp) : Prop := ∀ t vs, H t = some (.tup vs) → H' t = some (.tup vs)
mutual
theorem Rep.keep {H H' : Hp} (k : TupK H H') : ∀ {v : V} {d : D}, Rep H v d → Rep H' v d
  | _, _, .int i => .int i
  | _, _, .str y => .str y
  | _, _, .tup e r => .tup (k _ _ e) (RepL.keep k r)
theorem RepL.keep {H H' : Hp} (k : TupK H H') : ∀ {vs : List V} {ds : List D}, RepL H vs ds → RepL H' vs ds
  | _, _, .nil => .nil
  | _, _, .cons a r => .cons (Rep.keep k a) (RepL.keep k r)
end
theorem RepL.snoc {H : Hp} : ∀ {vs : List V} {ds : List D} {v : V} {d : D}, RepL H vs ds → Rep H v d → RepL H (vs ++ [v]) (ds ++ [d])
  | _, _, _, _, .nil, r => .cons r .nil
  | _, _, _, _, .cons a t, r => .cons a (t.snoc r)
theorem RepL.len {H : Hp} : ∀ {vs : List V} {ds : List D}, RepL H vs ds → vs.length = ds.length
  | _, _, .nil => rfl
  | _, _, .cons _ r => congrArg Nat.succ r.len
theorem Rep.str' {H : Hp} {y : Str} {s : List Nat} (h : cp y = s) : Rep H (.str y) (.str s) := by
  subst h
  exact .str y
theorem TupK.refl (H : Hp) : TupK H H := fun _ _ e => e
theorem TupK.trans {H H1 H2 : Hp} (a : TupK H H1) (b : TupK H1 H2) : TupK H H2 := fun t vs e => b t vs (a t vs e)
theorem TupK.same {H H' : Hp} (s : Same H H') : TupK H H' := fun t vs e => s _ _ e
theorem Sc.tupK {C p : Addr} {x : Str} {l : List Nat} {H H' : Hp} (s : Sc C H p x l) (k : Kept p H H') : TupK H H' := fun t vs e => by
  obtain ⟨dx, a, hp, _⟩ := s
  refine k t _ e ?_
  rintro rfl
  rw [hp] at e
  cases e
theorem Sc.same {C p : Addr} {x : Str} {l : List Nat} {H H' : Hp} (s : Sc C H p x l) (k : Same H H') : Sc C H' p x l := by
  obtain ⟨dx, a, hp, ps⟩ := s
  exact ⟨dx, a, k _ _ hp, ps⟩
theorem Kept.ofSame {p : Addr} {H H' : Hp} (k : Same H H') : Kept p H H' := fun a o e _ => k a o e

def repS : Hp → V → List Nat → Prop := fun _ v s => ∃ y, v = .str y ∧ cp y = s
def repN : Hp → V → Nat → Prop := fun _ v n => v = .int (n : Int)

theorem scWord : FnScope ["self"] ["self"] (defScope mWord) := ⟨rfl, rfl, rfl, by decide +kernel, rfl, by decide +kernel, by decide +kernel⟩
theorem scName : FnScope ["self", "name"] ["self"] (defScope mName) := ⟨rfl, rfl, rfl, by decide +kernel, rfl, by decide +kernel, by decide +kernel⟩
theorem scNumber : FnScope ["self", "digits"] ["self"] (defScope mNumber) := ⟨rfl, rfl, rfl, by decide +kernel, rfl, by decide +kernel, by decide +kernel⟩
theorem scSerial : FnScope ["self"] ["self"] (defScope mSerial) := ⟨rfl, rfl, rfl, by decide +kernel, rfl, by decide +kernel, by decide +kernel⟩
theorem scLit : FnScope ["self", "end"] ["self"] (defScope mLiteral) := ⟨rfl, rfl, rfl, by decide +kernel, rfl, by decide +kernel, by decide +kernel⟩

def spWord (C : Addr) : Sp := fun vs H Q _ => ∃ p x l, vs = [.ref p] ∧ Sc C H p x l ∧ ∀ H' y, Kept p H H' → Sc C H' p x (rWord l).2 → cp y = (rWord l).1 → Q (.str y) H'

section
variable {P : Program} {w : World} {K : PySem.W.Frag} {mg : Str → Option Value} {base : Heap} {C CB fB : Addr}

theorem ok_word {f fT fR : Addr} {fd fdT fdR : FuncData} (F : Fun K "take_word" "Scanner.take_word" mWord f fd) (T : Txt K mg C CB fB) (N : K2.Names mg)
    (bT : Binds K fdT ["self", "end"] []) (GT : FnOk P w K mg base CX0 1 fT fdT ["self", "end"] (spTo C)) (mT : Meth K C "take_to" fT)
    (kR : PySem.W.keepIn K (.ref fR) = true) (bR : Binds K fdR ["text", "at", "letters"] []) (gR : mg "run_end" = some (.ref fR)) (GR : FnOk P w K mg base CX0 1 fR fdR ["text", "at", "letters"] spRun) :
    FnOk P w K mg base CX0 2 f fd ["self"] (spWord C) := by
  obtain ⟨tl, gl⟩ := N.let_
  refine F.ok scWord (fun vs H Q E h => ?_) (fun cdv A outer s H vs Q E hr h => ?_)
  · obtain ⟨p, x, l, rfl, _⟩ := h
    rfl
  · obtain ⟨p, x, l, rfl, ⟨dx, a, hp, ps⟩, q⟩ := h
    refine ⟨_, pss_one (ps_ret (pe_meth (pv 0) T.cl mT GT hr bT .nil pass0 (pa_cons (pe_call GR hr (by rfl) gR kR bR .nil pass0
      (pa_cons (pe_fld (pv 0) rfl) (pa_cons (pe_fld (pv 0) rfl) (pa_cons (pe_glob (v := .str "abcdefghijklmnopqrstuvwxyz") rfl gl ⟨_, rfl⟩) pa_nil)))) pa_nil))), ?_⟩
    refine ⟨.ref p, rfl, p, dx, _, rfl, hp, flds_no _ _ (by decide +kernel) (by decide +kernel), ?_⟩
    refine ⟨.ref p, rfl, p, C, dx, _, .str x, rfl, hp, T.cl, T.nW, flds_whole _ _, .ref p, rfl, p, C, dx, _, .int a, rfl, hp, T.cl, T.nA, flds_at _ _, ?_⟩
    refine ⟨x, "abcdefghijklmnopqrstuvwxyz", a, rfl, ps.le, ps.sm, ?_⟩
    rw [show (fun c => decide (c ∈ cp ("abcdefghijklmnopqrstuvwxyz" : Str))) = isLet from funext letters_is, ps.eq]
    have e := rWord_eq l
    refine ⟨p, x, dx, a, (rWord l).1, (rWord l).2, rfl, hp, by rw [← e]; exact ps, fun H' y k s' hy => q H' y k s' hy⟩

theorem ok_name {f fW fI fR : Addr} {fd fdW fdI fdR : FuncData} (F : Fun K "take_name" "Scanner.take_name" mName f fd) (T : Txt K mg C CB fB)
    (bW : Binds K fdW ["self"] []) (GW : FnOk P w K mg base CX0 2 fW fdW ["self"] (spWord C)) (mW : Meth K C "take_word" fW)
    (kI : PySem.W.keepIn K (.ref fI) = true) (bI : Binds K fdI ["value"] []) (gI : mg "is_name" = some (.ref fI)) (GI : FnOk P w K mg base CX0 1 fI fdI ["value"] spNm)
    (bR : Binds K fdR ["self"] []) (GR : FnOk P w K mg base (CX P w) 3 fR fdR ["self"] (spRefuse C CB)) (mR : Meth K C "refuse" fR) :
    FnOk P w K mg base (CX P w) 4 f fd ["self"] (spRd C CB rName repS []) := by
  refine F.okX scName (fun vs H Q E h => ?_) (fun cdv A outer s H vs Q E hr h => ?_)
  · obtain ⟨p, x, l, rfl, _⟩ := h
    rfl
  · obtain ⟨p, x, l, rfl, hs, q1, q2⟩ := h
    refine ⟨_, pss_cons (ps_set (i := 1) scName.nd rfl (.inl rfl) (pe_meth0 (pv 0) T.cl mW GW (hr.mono (by decide)) bW .nil pass0))
      (pss_cons (ps_if (pt_not (pt_val (pe_call GI (hr.mono (by decide)) (by rfl) gI kI bI .nil pass0 (pa_cons (pv 1) pa_nil))))
        (pss_one (ps_expr (pe_meth0 (pv 0) T.cl mR GR hr bR .nil (passes_call (takes_of rfl rfl rfl rfl) fun _ _ _ _ z => z)))) pss_nil)
      (pss_one (ps_ret (pv 1)))), ?_⟩
    obtain ⟨dx, a, hp, ps⟩ := id hs
    refine ⟨.ref p, rfl, p, dx, _, rfl, hp, flds_no _ _ (by decide +kernel) (by decide +kernel), p, x, l, rfl, hs, fun H1 y k1 s1 hy => ?_⟩
    obtain ⟨dx1, a1, hp1, ps1⟩ := id s1
    have yl : (cp y).length ≤ most := by
      rw [hy]
      have e := congrArg List.length (rWord_eq l)
      rw [List.length_append] at e
      have := ps.len
      have := ps.sm
      omega
    refine ⟨_, rfl, y, rfl, yl, fun H2 sm => ⟨_, rfl, ?_⟩⟩
    have k2 : Kept p H H2 := k1.trans (Kept.ofSame sm)
    rw [hy]
    cases e : nameOk (rWord l).1 with
    | true =>
      refine iteF ⟨_, rfl, q1 H2 _ (rWord l).1 (rWord l).2 ?_ k2 (s1.same sm) ⟨y, rfl, hy⟩⟩
      unfold rName
      rw [if_pos e]
    | false =>
      refine iteT ⟨.ref p, rfl, p, dx1, _, rfl, sm _ _ hp1, flds_no _ _ (by decide +kernel) (by decide +kernel), p, x, _, rfl, s1.same sm, (q2 ?_).of k2⟩
      unfold rName
      rw [if_neg (by rw [e]; exact Bool.false_ne_true)]

theorem ok_number {f fT fR fU fN : Addr} {fd fdT fdR fdU fdN : FuncData} (F : Fun K "take_number" "Scanner.take_number" mNumber f fd) (T : Txt K mg C CB fB) (Z : Bare mg) (N : K2.Names mg)
    (bT : Binds K fdT ["self", "end"] []) (GT : FnOk P w K mg base CX0 1 fT fdT ["self", "end"] (spTo C)) (mT : Meth K C "take_to" fT)
    (kU : PySem.W.keepIn K (.ref fU) = true) (bU : Binds K fdU ["text", "at", "letters"] []) (gU : mg "run_end" = some (.ref fU)) (GU : FnOk P w K mg base CX0 1 fU fdU ["text", "at", "letters"] spRun)
    (kN : PySem.W.keepIn K (.ref fN) = true) (bN : Binds K fdN ["digits"] []) (gN : mg "number_in" = some (.ref fN)) (GN : FnOk P w K mg base CX0 1 fN fdN ["digits"] spNumIn)
    (bR : Binds K fdR ["self"] []) (GR : FnOk P w K mg base (CX P w) 3 fR fdR ["self"] (spRefuse C CB)) (mR : Meth K C "refuse" fR) :
    FnOk P w K mg base (CX P w) 4 f fd ["self"] (spRd C CB rNum repN []) := by
  obtain ⟨td, gd⟩ := N.dig
  obtain ⟨tm, gm⟩ := N.mdi
  refine F.okX scNumber (fun vs H Q E h => ?_) (fun cdv A outer s H vs Q E hr h => ?_)
  · obtain ⟨p, x, l, rfl, _⟩ := h
    rfl
  · obtain ⟨p, x, l, rfl, hs, q1, q2⟩ := h
    refine ⟨_, pss_cons (ps_set (i := 1) scNumber.nd rfl (.inl rfl) (pe_meth (pv 0) T.cl mT GT (hr.mono (by decide)) bT .nil pass0 (pa_cons (pe_call GU (hr.mono (by decide)) (by rfl) gU kU bU .nil pass0
        (pa_cons (pe_fld (pv 0) rfl) (pa_cons (pe_fld (pv 0) rfl) (pa_cons (pe_glob (v := .str "0123456789") rfl gd ⟨_, rfl⟩) pa_nil)))) pa_nil)))
      (pss_cons (ps_if (PW.pt (pw_or (pt_not (pt_chain op_le op_le pe_int (pe_callB call_len_str (by rfl) Z.len PySem.boot_len (pa_cons (pv 1) pa_nil)) (pe_glob (v := .int 1000) rfl gm ⟨_, rfl⟩)))
          (pw_or1 (PW.pt (pw_and (pt_cmpR op_eq (pe_item_str (pv 1) pe_int (fun _ _ => rfl)) pe_str (nomark _)) (pw_and1 (pt_cmpR op_ne (pv 1) pe_str (nomark _))))))))
        (pss_one (ps_expr (pe_meth0 (pv 0) T.cl mR GR hr bR .nil (passes_call (takes_of rfl rfl rfl rfl) fun _ _ _ _ z => z)))) pss_nil)
      (pss_one (ps_ret (pe_call GN (hr.mono (by decide)) (by rfl) gN kN bN .nil pass0 (pa_cons (pv 1) pa_nil))))), ?_⟩
    obtain ⟨dx, a, hp, ps⟩ := id hs
    refine ⟨.ref p, rfl, p, dx, _, rfl, hp, flds_no _ _ (by decide +kernel) (by decide +kernel), ?_⟩
    refine ⟨.ref p, rfl, p, C, dx, _, .str x, rfl, hp, T.cl, T.nW, flds_whole _ _, .ref p, rfl, p, C, dx, _, .int a, rfl, hp, T.cl, T.nA, flds_at _ _, ?_⟩
    refine ⟨x, "0123456789", a, rfl, ps.le, ps.sm, ?_⟩
    rw [show (fun c => decide (c ∈ cp ("0123456789" : Str))) = isDig from funext digits_is, ps.eq]
    have e : l = l.takeWhile isDig ++ l.dropWhile isDig := (List.takeWhile_append_dropWhile (p := isDig) (l := l)).symm
    have pn := ps.len
    have psm := ps.sm
    have le := congrArg List.length e
    rw [List.length_append] at le
    unfold rNum at q1 q2
    have ad : AllDigits (l.takeWhile isDig) := fun c hc => by
      have := mem_takeWhile hc
      unfold isDig at this
      simpa using this
    rw [show span isDig l = (l.takeWhile isDig).length from rfl]
    generalize l.takeWhile isDig = d at *
    generalize l.dropWhile isDig = r at *
    refine ⟨p, x, dx, a, d, r, rfl, hp, by rw [← e]; exact ps, fun H1 y k1 s1 hy => ?_⟩
    obtain ⟨dx1, a1, hp1, ps1⟩ := id s1
    have ey := cp_len y
    have yl : y.length ≤ sizeLine := most_line (by rw [← ey, hy]; omega)
    have bad : digOk d = false → ∀ D : Ends, (tDrop (tMeth C "refuse" (spRefuse C CB) [] E (tVar 0) tNil)) D [some (.ref p), some (.str y)] H1 := fun hb D => by
      refine ⟨.ref p, rfl, p, dx1, _, rfl, hp1, flds_no _ _ (by decide +kernel) (by decide +kernel), p, x, r, rfl, s1, (q2 ?_).of k1⟩
      rw [if_neg (by rw [hb]; exact Bool.false_ne_true)]
    have good : digOk d = true → Q (.int ((digitsVal d : Nat) : Int)) H1 := fun hb => by
      refine q1 H1 _ (digitsVal d) r ?_ k1 s1 rfl
      rw [if_pos hb]
    refine ⟨.str y, rfl, y, rfl, yl, 1, _, rfl, rfl, _, rfl, ?_⟩
    refine ite2 (fun e1 => ?_) (fun e1 => ?_)
    · have h1 : 1 ≤ (y.length : Int) := of_decide_eq_true e1
      refine ⟨_, _, rfl, rfl, _, rfl, ?_⟩
      refine ite2 (fun e2 => ?_) (fun e2 => ?_)
      · refine iteT (bad ?_ _)
        unfold digOk
        have h2 : ¬ (y.length : Int) ≤ 1000 := fun z => by rw [decide_eq_true z] at e2; cases e2
        rw [decide_eq_false (show ¬ d.length ≤ 1000 by rw [← hy]; omega), Bool.and_false, Bool.false_and]
      · have h2 : (y.length : Int) ≤ 1000 := by
          by_cases z : (y.length : Int) ≤ 1000
          · exact z
          · exact absurd (by rw [decide_eq_false z]; rfl) e2
        have hd : d = (cp y) := hy.symm
        obtain ⟨c, t, ct⟩ : ∃ c t, d = c :: t := by
          cases hz : d with
          | nil =>
            rw [hz] at hy
            rw [hy] at ey
            have : y.length = 0 := ey.symm
            omega
          | cons c t => exact ⟨c, t, rfl⟩
        have gc : y.cps[(0 : Int).toNat]? = some c := by
          show y.cps[0]? = some c
          rw [cp_get, hy, ct]
          rfl
        have ok : digOk d = !(decide (c = 48) && decide (d ≠ [48])) := by
          unfold digOk
          rw [decide_eq_true (show 1 ≤ d.length by rw [← hy]; omega), decide_eq_true (show d.length ≤ 1000 by rw [← hy]; omega)]
          rw [ct]
          simp
        refine ⟨.str y, rfl, y, 0, c, rfl, rfl, by decide, by decide, by omega, gc, rfl, _, rfl, ?_⟩
        rw [dec_sign c 48 _ (by decide +kernel)]
        by_cases ec : c = 48
        · rw [decide_eq_true ec] at ok ⊢
          refine iteT ⟨.str y, rfl, rfl, _, rfl, ?_⟩
          rw [dec_str, hy, show cp (Str.ofString "0") = [48] by decide +kernel]
          by_cases e0 : d = [48]
          · rw [decide_eq_true e0]
            refine iteF ⟨.str y, rfl, y, rfl, by rw [hy]; exact ad, by omega, by omega, ?_⟩
            rw [hy]
            exact good (by rw [ok, decide_eq_false (fun z => z e0)]; rfl)
          · rw [decide_eq_false e0]
            exact iteT (bad (by rw [ok, decide_eq_true e0]; rfl) _)
        · rw [decide_eq_false ec] at ok ⊢
          refine iteF (iteF ⟨.str y, rfl, y, rfl, by rw [hy]; exact ad, by omega, by omega, ?_⟩)
          rw [hy]
          exact good (by rw [ok]; rfl)
    · have h1 : ¬ 1 ≤ (y.length : Int) := fun z => e1 (decide_eq_true z)
      refine ⟨_, rfl, iteT (iteT (bad ?_ _))⟩
      unfold digOk
      rw [decide_eq_false (show ¬ 1 ≤ d.length by rw [← hy]; omega), Bool.false_and, Bool.false_and]
end
end K9

set_option maxHeartbeats 2000000
/-! The readers of serials, literals, paths. -/
namespace K9
open PySem PySem.Spec PyProof.Rows L2 K2
open PySem.NumText (digitsVal AllDigits)

theorem cp_lit1 : cp (Str.ofString "#") = [35] := by decide +kernel
theorem cp_quo : cp (Str.ofString "\"") = [34] := by decide +kernel
theorem cp_dash : cp (Str.ofString "-") = [45] := by decide +kernel
theorem cp_zero : cp (Str.ofString "0") = [48] := by decide +kernel
theorem cp_dot : cp (Str.ofString ".") = [46] := by decide +kernel
theorem cp_star : cp (Str.ofString "*") = [42] := by decide +kernel
theorem cp_slash : cp (Str.ofString "/") = [47] := by decide +kernel

/-- what all methods share: the scanner's field lookup of a method's name -/
theorem Sc.meth {C p : Addr} {x : Str} {l : List Nat} {H : Hp} (s : Sc C H p x l) {m : Str} (h1 : ¬ m = "at") (h2 : ¬ m = "whole") :
    ∃ dx fs, H p = some (.ins C dx fs) ∧ fs.lookup m = none := by
  obtain ⟨dx, a, hp, _⟩ := s
  exact ⟨dx, _, hp, flds_no _ _ h1 h2⟩
/-- a call of a method without arguments -/
theorem meth0 {C p : Addr} {x : Str} {l : List Nat} {H : Hp} {m : Str} {sp : Sp} {E : XK} {σ : L2.St} {Q : VK} {i : Nat} (s : Sc C H p x l) (hσ : σ[i]? = some (some (.ref p)))
    (h1 : ¬ m = "at") (h2 : ¬ m = "whole") (h : sp [.ref p] H Q E) : tMeth C m sp [] E (tVar i) tNil σ H Q := by
  obtain ⟨dx, fs, hp, hf⟩ := s.meth h1 h2
  exact ⟨.ref p, hσ, p, dx, fs, rfl, hp, hf, h⟩

theorem acc_len {s l l' : List Nat} (h : acc s l = some l') : l'.length + s.length = l.length := by
  rw [acc_some h, List.length_append]
  omega

section
variable {P : Program} {w : World} {K : PySem.W.Frag} {mg : Str → Option Value} {base : Heap} {C CB fB : Addr}

theorem ok_serial {f fE fN : Addr} {fd fdE fdN : FuncData} (F : Fun K "take_serial" "Scanner.take_serial" mSerial f fd) (T : Txt K mg C CB fB)
    (bE : Binds K fdE ["self", "sign"] []) (GE : FnOk P w K mg base (CX P w) 4 fE fdE ["self", "sign"] (spExp C CB)) (mE : Meth K C "expect" fE)
    (bN : Binds K fdN ["self"] []) (GN : FnOk P w K mg base (CX P w) 4 fN fdN ["self"] (spRd C CB rNum repN [])) (mN : Meth K C "take_number" fN) :
    FnOk P w K mg base (CX P w) 5 f fd ["self"] (spRd C CB rSer repN []) := by
  refine F.okX scSerial (fun vs H Q E h => ?_) (fun cdv A outer s H vs Q E hr h => ?_)
  · obtain ⟨p, x, l, rfl, _⟩ := h
    rfl
  · obtain ⟨p, x, l, rfl, hs, q1, q2⟩ := h
    refine ⟨_, pss_cons (ps_expr (pe_meth (pv 0) T.cl mE GE hr bE .nil (passes_call (takes_of rfl rfl rfl rfl) fun _ _ _ _ z => z) (pa_cons pe_str pa_nil)))
      (pss_one (ps_ret (pe_meth0 (pv 0) T.cl mN GN hr bN .nil (passes_call (takes_of rfl rfl rfl rfl) fun _ _ _ _ z => z)))), ?_⟩
    obtain ⟨dx, a, hp, ps⟩ := id hs
    refine ⟨.ref p, rfl, p, dx, _, rfl, hp, flds_no _ _ (by decide +kernel) (by decide +kernel), p, x, l, _, rfl, hs, by decide +kernel, fun H1 l1 e1 k1 s1 => ?_, fun e1 => q2 ?_⟩
    · rw [cp_lit1] at e1
      refine meth0 s1 rfl (by decide +kernel) (by decide +kernel) ⟨p, x, l1, rfl, s1, fun H2 v n l2 e2 k2 s2 r2 => q1 H2 v n l2 ?_ (k1.trans k2) s2 r2, fun e2 => (q2 ?_).of k1⟩
      · unfold rSer
        rw [e1]
        exact e2
      · unfold rSer
        rw [e1]
        exact e2
    · rw [cp_lit1] at e1
      unfold rSer
      rw [e1]
      rfl

theorem quo_pos {x : Str} {a : Nat} {l l1 : List Nat} (ps : Pos x a l) (h : acc [34] l = some l1) :
    a < (cp x).length ∧ (cp x).drop (a + 1) = l1 := by
  have e := acc_some h
  have pl := ps.len
  rw [e, List.length_append] at pl
  refine ⟨by simp only [List.length_cons, List.length_nil] at pl; omega, ?_⟩
  have := ps.eq
  rw [e] at this
  rw [← List.drop_drop, this]
  rfl
theorem drop_while_get (l : List Nat) : (l.dropWhile isIn).head? = l[span isIn l]? := by
  induction l with
  | nil => rfl
  | cons c r ih =>
    cases h : isIn c with
    | true =>
      rw [List.dropWhile_cons, h, if_pos rfl, ih, span_pos h]
      rfl
    | false =>
      rw [List.dropWhile_cons, h, if_neg Bool.false_ne_true, span_neg h]
      rfl
/-- where a string ends, by what its reader reads -/
theorem strE_quo {x : Str} {a : Nat} {l l1 : List Nat} (ps : Pos x a l) (h : acc [34] l = some l1) :
    (rQuo l1 = none ∧ strE (cp x) a = a) ∨ ∃ s r, rQuo l1 = some (s, r) ∧ strE (cp x) a = a + (34 :: (s ++ [34])).length ∧ l = (34 :: (s ++ [34])) ++ r := by
  obtain ⟨_, ed⟩ := quo_pos ps h
  unfold strE rQuo
  rw [ed, ← drop_while_get]
  have sp : span isIn l1 = (l1.takeWhile isIn).length := rfl
  rw [sp]
  by_cases c1 : (l1.takeWhile isIn).length ≤ 60
  · by_cases c2 : (l1.dropWhile isIn).head? = some 34
    · right
      refine ⟨_, _, by rw [decide_eq_true c1, decide_eq_true c2]; rfl, ?_, ?_⟩
      · rw [if_pos ⟨c2, c1⟩]
        simp
      · rw [acc_some h]
        have e := (List.takeWhile_append_dropWhile (p := isIn) (l := l1)).symm
        cases hd : l1.dropWhile isIn with
        | nil => rw [hd] at c2; cases c2
        | cons b t =>
          rw [hd] at e c2
          have := Option.some.inj c2
          subst this
          conv => lhs; rw [e]
          simp
    · left
      refine ⟨by rw [decide_eq_false c2, Bool.and_false]; rfl, by rw [if_neg fun z => c2 z.1]⟩
  · left
    refine ⟨by rw [decide_eq_false c1]; rfl, by rw [if_neg fun z => c1 z.2]⟩
/-- a string without its quotes -/
theorem cut_in {y : Str} {s : List Nat} (h : cp y = 34 :: (s ++ [34])) : cp (cutS y (some (1 : Int)) (some (-1 : Int))) = s := by
  have l := cp_len y
  rw [h] at l
  simp at l
  unfold cutS
  rw [cp_of]
  have e0 : y.cps.toList = cp y := rfl
  have e1 : HT.sIx y.length 0 (some (1 : Int)) = 1 := by
    rw [show (1 : Int) = ((1 : Nat) : Int) from rfl, HT.sIx_nat]
    omega
  have e2 : HT.sIx y.length y.length (some (-1 : Int)) = y.length - 1 := by
    unfold HT.sIx
    simp
    omega
  rw [e0, e1, e2, h]
  show (s ++ [34]).take _ = s
  rw [show y.length - 1 - 1 = s.length by omega, List.take_left]

theorem ok_literal {f fS fA fR fE fT fN : Addr} {fd fdS fdA fdR fdE fdT fdN : FuncData} (F : Fun K "take_literal" "Scanner.take_literal" mLiteral f fd) (T : Txt K mg C CB fB) (N : K2.Names mg)
    (bS : Binds K fdS ["self", "sign"] []) (GS : FnOk P w K mg base CX0 1 fS fdS ["self", "sign"] (spSees C)) (mS : Meth K C "sees" fS)
    (bA : Binds K fdA ["self", "sign"] []) (GA : FnOk P w K mg base CX0 2 fA fdA ["self", "sign"] (spAcc C)) (mA : Meth K C "accepts" fA)
    (bR : Binds K fdR ["self"] []) (GR : FnOk P w K mg base (CX P w) 3 fR fdR ["self"] (spRefuse C CB)) (mR : Meth K C "refuse" fR)
    (kE : PySem.W.keepIn K (.ref fE) = true) (bE : Binds K fdE ["text", "start"] []) (gE : mg "string_end" = some (.ref fE)) (GE : FnOk P w K mg base CX0 2 fE fdE ["text", "start"] spStrE)
    (bT : Binds K fdT ["self", "end"] []) (GT : FnOk P w K mg base CX0 1 fT fdT ["self", "end"] (spTo C)) (mT : Meth K C "take_to" fT)
    (bN : Binds K fdN ["self"] []) (GN : FnOk P w K mg base (CX P w) 4 fN fdN ["self"] (spRd C CB rNum repN [])) (mN : Meth K C "take_number" fN) :
    FnOk P w K mg base (CX P w) 5 f fd ["self"] (spRd C CB rLit Rep []) := by
  obtain ⟨tq, gq⟩ := N.quo
  refine F.okX scLit (fun vs H Q E h => ?_) (fun cdv A outer s H vs Q E hr h => ?_)
  · obtain ⟨p, x, l, rfl, _⟩ := h
    rfl
  · obtain ⟨p, x, l, rfl, hs, q1, q2⟩ := h
    have hr3 := hr.mono (show 3 ≤ 4 by decide)
    have hr2 := hr.mono (show 2 ≤ 4 by decide)
    have hr1 := hr.mono (show 1 ≤ 4 by decide)
    refine ⟨_, pss_cons (ps_if (pt_val (pe_meth (pv 0) T.cl mS GS hr1 bS .nil pass0 (pa_cons (pe_glob (v := .str "\"") rfl gq ⟨_, rfl⟩) pa_nil)))
        (pss_cons (ps_set (i := 1) scLit.nd rfl (.inl rfl) (pe_call GE hr2 (by rfl) gE kE bE .nil pass0 (pa_cons (pe_fld (pv 0) rfl) (pa_cons (pe_fld (pv 0) rfl) pa_nil))))
        (pss_cons (ps_if (pt_cmpR op_eq (pv 1) (pe_fld (pv 0) rfl) (nomark _))
          (pss_one (ps_expr (pe_meth0 (pv 0) T.cl mR GR hr3 bR .nil (passes_call (takes_of rfl rfl rfl rfl) fun _ _ _ _ z => z)))) pss_nil)
        (pss_one (ps_ret (pe_slice sl_str (pe_meth (pv 0) T.cl mT GT hr1 bT .nil pass0 (pa_cons (pv 1) pa_nil)) (po_some pe_int) (po_some (pe_un un_neg pe_int))))))) pss_nil)
      (pss_cons (ps_if (pt_not (pt_val (pe_meth (pv 0) T.cl mA GA hr2 bA .nil pass0 (pa_cons pe_str pa_nil))))
        (pss_one (ps_ret (pe_meth0 (pv 0) T.cl mN GN hr bN .nil (passes_call (takes_of rfl rfl rfl rfl) fun _ _ _ _ z => z)))) pss_nil)
      (pss_cons (ps_if (pt_val (pe_meth (pv 0) T.cl mS GS hr1 bS .nil pass0 (pa_cons pe_str pa_nil)))
        (pss_one (ps_expr (pe_meth0 (pv 0) T.cl mR GR hr3 bR .nil (passes_call (takes_of rfl rfl rfl rfl) fun _ _ _ _ z => z)))) pss_nil)
      (pss_one (ps_ret (pe_un un_neg (pe_meth0 (pv 0) T.cl mN GN hr bN .nil (passes_call (takes_of rfl rfl rfl rfl) fun _ _ _ _ z => z))))))), ?_⟩
    obtain ⟨dx, a, hp, ps⟩ := id hs
    refine ⟨.ref p, rfl, p, dx, _, rfl, hp, flds_no _ _ (by decide +kernel) (by decide +kernel), p, x, l, _, rfl, hs, by decide +kernel, _, rfl, ?_⟩
    rw [cp_quo]
    unfold rLit at q1 q2
    cases e : acc [34] l with
    | some l1 =>
      rw [e] at q1 q2
      refine iteT ⟨.ref p, rfl, p, C, dx, _, .str x, rfl, hp, T.cl, T.nW, flds_whole _ _, .ref p, rfl, p, C, dx, _, .int a, rfl, hp, T.cl, T.nA, flds_at _ _, ?_⟩
      refine ⟨x, a, rfl, (quo_pos ps e).1, ps.sm, _, rfl, .ref p, rfl, p, C, dx, _, .int a, rfl, hp, T.cl, T.nA, flds_at _ _, rfl, _, rfl, ?_⟩
      rcases strE_quo ps e with ⟨en, es⟩ | ⟨z, r, en, es, el⟩
      · rw [es, decide_eq_true rfl]
        refine iteT (meth0 hs rfl (by decide +kernel) (by decide +kernel) ⟨p, x, l, rfl, hs, q2 ?_⟩)
        show (rQuo l1).map _ = _
        rw [en]
        rfl
      · rw [es, decide_eq_false (by intro c; injection c with c; simp at c; omega)]
        refine iteF ⟨.ref p, rfl, p, dx, _, rfl, hp, flds_no _ _ (by decide +kernel) (by decide +kernel), _, rfl, p, x, dx, a, _, r, rfl, hp, by rw [← el]; exact ps, fun H1 y k1 s1 hy => ?_⟩
        refine ⟨1, rfl, 1, rfl, _, rfl, y, rfl, ?_, q1 H1 _ (.str z) r ?_ k1 s1 (Rep.str' (cut_in hy))⟩
        · have pl := ps.len
          have psm := ps.sm
          have ly := cp_len y
          rw [hy] at ly
          rw [el, List.length_append] at pl
          exact most_line (by omega)
        · show (rQuo l1).map _ = _
          rw [en]
          rfl
    | none =>
      rw [e] at q1 q2
      refine iteF ⟨.ref p, rfl, p, dx, _, rfl, hp, flds_no _ _ (by decide +kernel) (by decide +kernel), p, x, l, _, rfl, hs, by decide +kernel, fun H1 l1 e1 k1 s1 => ⟨_, rfl, iteF ?_⟩, fun e1 => ⟨_, rfl, iteT ?_⟩⟩
      · rw [cp_dash] at e1
        rw [e1] at q1 q2
        obtain ⟨dx1, a1, hp1, ps1⟩ := id s1
        refine ⟨.ref p, rfl, p, dx1, _, rfl, hp1, flds_no _ _ (by decide +kernel) (by decide +kernel), p, x, l1, _, rfl, s1, by decide +kernel, _, rfl, ?_⟩
        rw [cp_zero]
        cases e2 : (acc [48] l1).isSome with
        | true =>
          refine iteT (meth0 s1 rfl (by decide +kernel) (by decide +kernel) ⟨p, x, l1, rfl, s1, (q2 ?_).of k1⟩)
          show (if (acc [48] l1).isSome = true then none else _) = none
          rw [if_pos e2]
        | false =>
          refine iteF (meth0 s1 rfl (by decide +kernel) (by decide +kernel) ⟨p, x, l1, rfl, s1, fun H2 v n l2 e3 k2 s2 r2 => ?_, fun e3 => (q2 ?_).of k1⟩)
          · obtain rfl : v = .int (n : Int) := r2
            refine ⟨_, rfl, q1 H2 _ (.int (-(n : Int))) l2 ?_ (k1.trans k2) s2 (.int _)⟩
            show (if (acc [48] l1).isSome = true then none else _) = _
            rw [if_neg (by rw [e2]; exact Bool.false_ne_true), e3]
            rfl
          · show (if (acc [48] l1).isSome = true then none else _) = none
            rw [if_neg (by rw [e2]; exact Bool.false_ne_true), e3]
            rfl
      · rw [cp_dash] at e1
        rw [e1] at q1 q2
        refine meth0 hs rfl (by decide +kernel) (by decide +kernel) ⟨p, x, l, rfl, hs, fun H2 v n l2 e3 k2 s2 r2 => ?_, fun e3 => q2 ?_⟩
        · obtain rfl : v = .int (n : Int) := r2
          refine q1 H2 _ (.int (n : Int)) l2 ?_ k2 s2 (.int _)
          show (rNum l).map _ = _
          rw [e3]
          rfl
        · show (rNum l).map _ = _
          rw [e3]
          rfl
end
end K9

set_option maxHeartbeats 2000000
/-! The readers of paths, places, spots. -/
namespace K9
open PySem PySem.Spec PyProof.Rows L2 K2
open PySem.NumText (digitsVal AllDigits)

theorem scPart : FnScope ["self", "with_stars"] ["self", "with_stars"] (defScope mPart) := ⟨rfl, rfl, rfl, by decide +kernel, rfl, by decide +kernel, by decide +kernel⟩
theorem scPath : FnScope ["self", "with_stars", "parts"] ["self", "with_stars"] (defScope mPath) := ⟨rfl, rfl, rfl, by decide +kernel, rfl, by decide +kernel, by decide +kernel⟩
theorem scPlace : FnScope ["self", "file"] ["self"] (defScope mPlace) := ⟨rfl, rfl, rfl, by decide +kernel, rfl, by decide +kernel, by decide +kernel⟩
theorem scSpot : FnScope ["self", "file", "owner"] ["self"] (defScope mSpot) := ⟨rfl, rfl, rfl, by decide +kernel, rfl, by decide +kernel, by decide +kernel⟩

def repL : Hp → V → List D → Prop := fun H v ds => Rep H v (.tup ds)

theorem rPart_len {st : Bool} {r r' : List Nat} {d : D} (h : rPart st r = some (d, r')) : r'.length ≤ r.length := by
  rw [rPart_some h, List.length_append]
  omega
/-- with fuel enough, no part is left out -/
theorem rMore_none {st : Bool} {n : Nat} {l : List Nat} (h : acc [46] l = none) : rMore st n l = some ([], l) := by
  cases n with
  | zero => rfl
  | succ n =>
    unfold rMore
    rw [h]

theorem Kept.none {p b : Addr} {H H' : Hp} (k : Kept p H H') (h : H' b = Option.none) (nb : b ≠ p) : H b = Option.none := by
  cases e : H b with
  | none => rfl
  | some o =>
    rw [k b o e nb] at h
    cases h
theorem Kept.new {p b : Addr} {H H' : Hp} {o : HO} (k : Kept p H H') (h : H b = Option.none) : Kept p H (upd H' b o) := fun c u e n => by
  rw [upd_ne (ne_of_none e h)]
  exact k c u e n
theorem Sc.upd {C p b : Addr} {x : Str} {l : List Nat} {H : Hp} {o : HO} (s : Sc C H p x l) (nb : b ≠ p) : Sc C (upd H b o) p x l := by
  obtain ⟨dx, a, hp, ps⟩ := s
  exact ⟨dx, a, by rw [upd_ne nb.symm]; exact hp, ps⟩
theorem TupK.lst {H : Hp} {b : Addr} {vs us : List V} (h : H b = some (.lst vs)) : TupK H (L2.upd H b (.lst us)) := fun t ws e => by
  rw [upd_ne]
  · exact e
  · rintro rfl
    rw [h] at e
    cases e
section
variable {P : Program} {w : World} {K : PySem.W.Frag} {mg : Str → Option Value} {base : Heap} {C CB fB : Addr}

theorem ok_part {f fA fS fE fN : Addr} {fd fdA fdS fdE fdN : FuncData} (F : Fun K "take_part" "Scanner.take_part" mPart f fd) (T : Txt K mg C CB fB)
    (bA : Binds K fdA ["self", "sign"] []) (GA : FnOk P w K mg base CX0 2 fA fdA ["self", "sign"] (spAcc C)) (mA : Meth K C "accepts" fA)
    (bS : Binds K fdS ["self", "sign"] []) (GS : FnOk P w K mg base CX0 1 fS fdS ["self", "sign"] (spSees C)) (mS : Meth K C "sees" fS)
    (bE : Binds K fdE ["self"] []) (GE : FnOk P w K mg base (CX P w) 5 fE fdE ["self"] (spRd C CB rSer repN [])) (mE : Meth K C "take_serial" fE)
    (bN : Binds K fdN ["self"] []) (GN : FnOk P w K mg base (CX P w) 4 fN fdN ["self"] (spRd C CB rName repS [])) (mN : Meth K C "take_name" fN) (st : Bool) :
    FnOk P w K mg base (CX P w) 6 f fd ["self", "with_stars"] (spRd C CB (rPart st) Rep [.bl st]) := by
  refine F.okX scPart (fun vs H Q E h => ?_) (fun cdv A outer s H vs Q E hr h => ?_)
  · obtain ⟨p, x, l, rfl, _⟩ := h
    rfl
  · obtain ⟨p, x, l, rfl, hs, q1, q2⟩ := h
    have hr4 := hr.mono (show 4 ≤ 5 by decide)
    have hr2 := hr.mono (show 2 ≤ 5 by decide)
    have hr1 := hr.mono (show 1 ≤ 5 by decide)
    refine ⟨_, pss_cons (ps_if (PW.pt (pw_and (pt_val (pv 1)) (pw_and1 (pt_val (pe_meth (pv 0) T.cl mA GA hr2 bA .nil pass0 (pa_cons pe_str pa_nil))))))
        (pss_one (ps_ret pe_str)) pss_nil)
      (pss_one (ps_ret (pe_ifExp (pt_val (pe_meth (pv 0) T.cl mS GS hr1 bS .nil pass0 (pa_cons pe_str pa_nil)))
        (pe_meth0 (pv 0) T.cl mE GE hr bE .nil (passes_call (takes_of rfl rfl rfl rfl) fun _ _ _ _ z => z))
        (pe_meth0 (pv 0) T.cl mN GN hr4 bN .nil (passes_call (takes_of rfl rfl rfl rfl) fun _ _ _ _ z => z))))), ?_⟩
    obtain ⟨dx, a, hp, ps⟩ := id hs
    unfold rPart at q1 q2
    have rest : (st && (acc [42] l).isSome) = false → (tRet (tIf (tTest (tMeth C "sees" (spSees C) [] E0 (tVar 0) (tCons (tC (.str "#")) tNil))) (tMeth C "take_serial" (spRd C CB rSer repN []) [] E (tVar 0) tNil) (tMeth C "take_name" (spRd C CB rName repS []) [] E (tVar 0) tNil)))
        { nx := fun x H' => Q V.non H', rt := Q } [some (.ref p), some (.bl st)] H := fun hb => by
      rw [hb] at q1 q2
      refine ⟨.ref p, rfl, p, dx, _, rfl, hp, flds_no _ _ (by decide +kernel) (by decide +kernel), p, x, l, _, rfl, hs, by decide +kernel, _, rfl, ?_⟩
      rw [cp_lit1]
      cases e : (acc [35] l).isSome with
      | true =>
        rw [e] at q1 q2
        refine iteT (meth0 hs rfl (by decide +kernel) (by decide +kernel) ⟨p, x, l, rfl, hs, fun H2 v n l2 e2 k2 s2 r2 => ?_, fun e2 => q2 ?_⟩)
        · obtain rfl : v = .int (n : Int) := r2
          refine q1 H2 _ (.int (n : Int)) l2 ?_ k2 s2 (.int _)
          show (rSer l).map _ = _
          rw [e2]
          rfl
        · show (rSer l).map _ = _
          rw [e2]
          rfl
      | false =>
        rw [e] at q1 q2
        refine iteF (meth0 hs rfl (by decide +kernel) (by decide +kernel) ⟨p, x, l, rfl, hs, fun H2 v z l2 e2 k2 s2 r2 => ?_, fun e2 => q2 ?_⟩)
        · obtain ⟨y, rfl, hy⟩ := r2
          refine q1 H2 _ (.str z) l2 ?_ k2 s2 (Rep.str' hy)
          show (rName l).map _ = _
          rw [e2]
          rfl
        · show (rName l).map _ = _
          rw [e2]
          rfl
    refine ⟨_, rfl, _, rfl, ?_⟩
    cases st with
    | false => exact iteF (rest rfl)
    | true =>
      refine iteT ⟨.ref p, rfl, p, dx, _, rfl, hp, flds_no _ _ (by decide +kernel) (by decide +kernel), p, x, l, _, rfl, hs, by decide +kernel, fun H1 l1 e1 k1 s1 => ⟨_, rfl, iteT ?_⟩, fun e1 => ⟨_, rfl, iteF (rest ?_)⟩⟩
      · rw [cp_star] at e1
        rw [e1] at q1
        exact q1 H1 _ (.str [42]) l1 rfl k1 s1 (Rep.str' cp_star)
      · rw [cp_star] at e1
        rw [e1]
        rfl

theorem ok_path {f fP fA : Addr} {fd fdP fdA : FuncData} (F : Fun K "take_path" "Scanner.take_path" mPath f fd) (T : Txt K mg C CB fB) (mT : mg "tuple" = none) (st : Bool)
    (bP : Binds K fdP ["self", "with_stars"] []) (GP : FnOk P w K mg base (CX P w) 6 fP fdP ["self", "with_stars"] (spRd C CB (rPart st) Rep [.bl st])) (mP : Meth K C "take_part" fP)
    (bA : Binds K fdA ["self", "sign"] []) (GA : FnOk P w K mg base CX0 2 fA fdA ["self", "sign"] (spAcc C)) (mA : Meth K C "accepts" fA) :
    FnOk P w K mg base (CX P w) 7 f fd ["self", "with_stars"] (spRd C CB (rPath st) repL [.bl st]) := by
  refine F.okX scPath (fun vs H Q E h => ?_) (fun cdv A outer s H vs Q E hr h => ?_)
  · obtain ⟨p, x, l, rfl, _⟩ := h
    rfl
  · obtain ⟨p, x, l, rfl, hs, q1, q2⟩ := h
    have hr2 := hr.mono (show 2 ≤ 6 by decide)
    refine ⟨_, pss_cons (ps_set (i := 2) scPath.nd rfl (.inl rfl) (pe_lst (pa_cons (pe_meth (pv 0) T.cl mP GP hr bP .nil (passes_call (takes_of rfl rfl rfl rfl) fun _ _ _ _ z => z) (pa_cons (pv 1) pa_nil)) pa_nil)))
      (pss_cons (ps_while PassesOwn.leaving (pt_val (pe_meth (pv 0) T.cl mA GA hr2 bA .nil pass0 (pa_cons pe_str pa_nil)))
        (pss_one (ps_expr (pe_bm PySem.F.plainAttrs_list PySem.F.slot_list_append PySem.F.type_list_append mt_append (pv 2)
          (pa_cons (pe_meth (pv 0) T.cl mP GP hr bP .nil (passes_call (takes_of rfl rfl rfl rfl) fun _ _ _ _ z => z) (pa_cons (pv 1) pa_nil)) pa_nil)))))
      (pss_one (ps_ret (pe_callTy call_tuple_of (by rfl) mT (by decide +kernel) (pa_cons (pv 2) pa_nil))))), ?_⟩
    obtain ⟨dx, a, hp, ps⟩ := id hs
    have pl := ps.len
    have psm := ps.sm
    unfold rPath at q1 q2
    refine ⟨.ref p, rfl, p, dx, _, rfl, hp, flds_no _ _ (by decide +kernel) (by decide +kernel), _, rfl, p, x, l, rfl, hs, fun H1 v1 d1 l1 e1 k1 s1 r1 => ?_, fun e1 => q2 (by rw [e1]; rfl)⟩
    rw [e1] at q1 q2
    have ll := rPart_len e1
    refine ⟨by show 1 ≤ _; decide, fun b hb => ?_⟩
    have sm1 : Same H1 (upd H1 b (.lst [v1])) := same_upd hb
    refine ⟨fun m σ H' => ∃ (l' : List Nat) (vs : List V) (ds : List D) (n : Nat), m = l'.length ∧ σ = [some (.ref p), some (.bl st), some (.ref b)] ∧ Kept p H H' ∧ Sc C H' p x l' ∧ H' b = some (.lst vs) ∧ RepL H' vs ds ∧ vs.length + l'.length ≤ l.length + 1 ∧ l'.length ≤ n ∧
      ((rMore st l1.length l1).map fun y => (d1 :: y.1, y.2)) = (rMore st n l').map fun y => (ds ++ y.1, y.2),
      ⟨_, l1, [v1], [d1], l1.length, rfl, rfl, k1.trans (Kept.ofSame sm1), s1.same sm1, upd_same, (RepL.cons r1 .nil).keep (TupK.same sm1), by simp; omega, Nat.le_refl _, rfl⟩, ?_⟩
    rintro m σ H' ⟨l', vs, ds, n, rfl, rfl, k', s', hb', r', hn, hf, er⟩
    obtain ⟨dx', a', hp', ps'⟩ := id s'
    have nb : b ≠ p := by
      rintro rfl
      rw [hb'] at hp'
      cases hp'
    refine ⟨.ref p, rfl, p, dx', _, rfl, hp', flds_no _ _ (by decide +kernel) (by decide +kernel), p, x, l', _, rfl, s', by decide +kernel, fun H2 l2 e2 k2 s2 => ⟨_, rfl, iteT ?_⟩, fun e2 => ⟨_, rfl, iteF ?_⟩⟩
    · rw [cp_dot] at e2
      have len2 := acc_len e2
      simp only [List.length_cons, List.length_nil] at len2
      obtain ⟨n', rfl⟩ : ∃ n', n = n' + 1 := ⟨n - 1, by omega⟩
      rw [rMore, e2] at er
      refine ⟨fun σ' H' => ∃ m', m' < l'.length ∧ ∃ (l' : List Nat) (vs : List V) (ds : List D) (n : Nat), m' = l'.length ∧ σ' = [some (.ref p), some (.bl st), some (.ref b)] ∧ Kept p H H' ∧ Sc C H' p x l' ∧ H' b = some (.lst vs) ∧ RepL H' vs ds ∧ vs.length + l'.length ≤ l.length + 1 ∧ l'.length ≤ n ∧
        ((rMore st l1.length l1).map fun y => (d1 :: y.1, y.2)) = (rMore st n l').map fun y => (ds ++ y.1, y.2), fun _ _ w => w, ?_⟩
      have hb2 : H2 b = some (.lst vs) := k2 _ _ hb' nb
      obtain ⟨dx2, a2, hp2, ps2⟩ := id s2
      refine ⟨.ref b, rfl, .inl ⟨rfl, _, SqL.of hb2⟩, .ref p, rfl, p, dx2, _, rfl, hp2, flds_no _ _ (by decide +kernel) (by decide +kernel), _, rfl, p, x, l2, rfl, s2, fun H3 v3 d3 l3 e3 k3 s3 r3 => ?_, fun e3 => (q2 ?_).of (k'.trans k2)⟩
      · have hb3 : H3 b = some (.lst vs) := k3 _ _ hb2 nb
        have l3l := rPart_len e3
        have vl : vs.length < sizeLine := Nat.lt_of_le_of_lt (show vs.length ≤ most + 1 by omega) (by decide)
        refine ⟨b, vs, v3, rfl, rfl, hb3, vl, ?_⟩
        have bn : H b = none := Kept.none k1 hb nb
        have s4 : Sc C (upd H3 b (.lst (vs ++ [v3]))) p x l3 := s3.upd nb
        refine ⟨_, ?_, l3, vs ++ [v3], ds ++ [d3], n', rfl, rfl, (Kept.new ((k'.trans k2).trans k3) bn), s4, upd_same, ?_, ?_, by omega, ?_⟩
        · omega
        · have r4 := (r'.keep (s'.tupK k2)).keep (s2.tupK k3)
          exact (r4.snoc r3).keep (TupK.lst hb3)
        · rw [List.length_append, List.length_singleton]
          omega
        · rw [er]
          show (((rPart st l2).bind _).map _) = _
          rw [e3]
          show (((rMore st n' l3).map _).map _) = _
          rw [Option.map_map]
          refine congrArg (fun g => Option.map g (rMore st n' l3)) (funext fun y => ?_)
          show (ds ++ d3 :: y.1, y.2) = _
          rw [List.append_assoc]
          rfl
      · show (rMore st l1.length l1).map _ = none
        rw [er]
        show (((rPart st l2).bind _).map _) = none
        rw [e3]
        rfl
    · rw [cp_dot] at e2
      rw [rMore_none e2] at er
      refine ⟨.ref b, rfl, b, vs, rfl, .inl ⟨SqL.of hb', fun t ht => ?_⟩⟩
      have sm2 : Same H' (upd H' t (.tup vs)) := same_upd ht
      refine q1 _ _ ds l' ?_ (k'.trans (Kept.ofSame sm2)) (s'.same sm2) (.tup upd_same (r'.keep (TupK.same sm2)))
      show (rMore st l1.length l1).map _ = _
      rw [er]
      show some (ds ++ [], l') = _
      rw [List.append_nil]
end
end K9

set_option maxHeartbeats 2000000
/-! The readers of places, spots. -/
namespace K9
open PySem PySem.Spec PyProof.Rows L2 K2

section
variable {P : Program} {w : World} {K : PySem.W.Frag} {mg : Str → Option Value} {base : Heap} {C CB fB : Addr}

theorem ok_place {f fN fE fP : Addr} {fd fdN fdE fdP : FuncData} (F : Fun K "take_place" "Scanner.take_place" mPlace f fd) (T : Txt K mg C CB fB)
    (bN : Binds K fdN ["self"] []) (GN : FnOk P w K mg base (CX P w) 4 fN fdN ["self"] (spRd C CB rName repS [])) (mN : Meth K C "take_name" fN)
    (bE : Binds K fdE ["self", "sign"] []) (GE : FnOk P w K mg base (CX P w) 4 fE fdE ["self", "sign"] (spExp C CB)) (mE : Meth K C "expect" fE)
    (bP : Binds K fdP ["self", "with_stars"] []) (GP : FnOk P w K mg base (CX P w) 7 fP fdP ["self", "with_stars"] (spRd C CB (rPath false) repL [.bl false])) (mP : Meth K C "take_path" fP) :
    FnOk P w K mg base (CX P w) 8 f fd ["self"] (spRd C CB rPlace Rep []) := by
  refine F.okX scPlace (fun vs H Q E h => ?_) (fun cdv A outer s H vs Q E hr h => ?_)
  · obtain ⟨p, x, l, rfl, _⟩ := h
    rfl
  · obtain ⟨p, x, l, rfl, hs, q1, q2⟩ := h
    have hr4 := hr.mono (show 4 ≤ 7 by decide)
    refine ⟨_, pss_cons (ps_set (i := 1) scPlace.nd rfl (.inl rfl) (pe_meth0 (pv 0) T.cl mN GN hr4 bN .nil (passes_call (takes_of rfl rfl rfl rfl) fun _ _ _ _ z => z)))
      (pss_cons (ps_expr (pe_meth (pv 0) T.cl mE GE hr4 bE .nil (passes_call (takes_of rfl rfl rfl rfl) fun _ _ _ _ z => z) (pa_cons pe_str pa_nil)))
      (pss_one (ps_ret (pe_tup (pa_cons (pv 1) (pa_cons (pe_meth (pv 0) T.cl mP GP hr bP .nil (passes_call (takes_of rfl rfl rfl rfl) fun _ _ _ _ z => z) (pa_cons pe_bl pa_nil)) pa_nil)))))), ?_⟩
    unfold rPlace at q1 q2
    refine meth0 hs rfl (by decide +kernel) (by decide +kernel) ⟨p, x, l, rfl, hs, fun H1 v1 d1 l1 e1 k1 s1 r1 => ?_, fun e1 => q2 (by rw [e1]; rfl)⟩
    rw [e1] at q1 q2
    obtain ⟨y, rfl, hy⟩ := r1
    obtain ⟨dx1, a1, hp1, _⟩ := id s1
    refine ⟨.ref p, rfl, p, dx1, _, rfl, hp1, flds_no _ _ (by decide +kernel) (by decide +kernel), p, x, l1, _, rfl, s1, by decide +kernel, fun H2 l2 e2 k2 s2 => ?_, fun e2 => (q2 ?_).of k1⟩
    · rw [cp_slash] at e2
      obtain ⟨dx2, a2, hp2, _⟩ := id s2
      refine ⟨_, rfl, .ref p, rfl, p, dx2, _, rfl, hp2, flds_no _ _ (by decide +kernel) (by decide +kernel), p, x, l2, rfl, s2, fun H3 v3 d3 l3 e3 k3 s3 r3 => ?_, fun e3 => (q2 ?_).of (k1.trans k2)⟩
      · refine ⟨by show 2 ≤ _; decide, fun t ht => ?_⟩
        have sm : Same H3 (upd H3 t (.tup [.str y, v3])) := same_upd ht
        refine q1 _ _ (.tup [.str d1, .tup d3]) l3 ?_ (((k1.trans k2).trans k3).trans (Kept.ofSame sm)) (s3.same sm) (.tup upd_same (.cons (Rep.str' hy) (.cons (r3.keep (TupK.same sm)) .nil)))
        show ((acc [47] l1).bind _) = _
        rw [e2]
        show ((rPath false l2).map _) = _
        rw [e3]
        rfl
      · show ((acc [47] l1).bind _) = none
        rw [e2]
        show ((rPath false l2).map _) = none
        rw [e3]
        rfl
    · rw [cp_slash] at e2
      show ((acc [47] l1).bind _) = none
      rw [e2]
      rfl

theorem ok_spot {f fN fE fS fP : Addr} {fd fdN fdE fdS fdP : FuncData} (F : Fun K "take_spot" "Scanner.take_spot" mSpot f fd) (T : Txt K mg C CB fB)
    (bN : Binds K fdN ["self"] []) (GN : FnOk P w K mg base (CX P w) 4 fN fdN ["self"] (spRd C CB rName repS [])) (mN : Meth K C "take_name" fN)
    (bE : Binds K fdE ["self", "sign"] []) (GE : FnOk P w K mg base (CX P w) 4 fE fdE ["self", "sign"] (spExp C CB)) (mE : Meth K C "expect" fE)
    (bS : Binds K fdS ["self", "sign"] []) (GS : FnOk P w K mg base CX0 1 fS fdS ["self", "sign"] (spSees C)) (mS : Meth K C "sees" fS)
    (bP : Binds K fdP ["self", "with_stars"] []) (GP : FnOk P w K mg base (CX P w) 7 fP fdP ["self", "with_stars"] (spRd C CB (rPath true) repL [.bl true])) (mP : Meth K C "take_path" fP) :
    FnOk P w K mg base (CX P w) 8 f fd ["self"] (spRd C CB rSpot Rep []) := by
  refine F.okX scSpot (fun vs H Q E h => ?_) (fun cdv A outer s H vs Q E hr h => ?_)
  · obtain ⟨p, x, l, rfl, _⟩ := h
    rfl
  · obtain ⟨p, x, l, rfl, hs, q1, q2⟩ := h
    have hr4 := hr.mono (show 4 ≤ 7 by decide)
    have hr1 := hr.mono (show 1 ≤ 7 by decide)
    refine ⟨_, pss_cons (ps_set (i := 1) scSpot.nd rfl (.inl rfl) (pe_meth0 (pv 0) T.cl mN GN hr4 bN .nil (passes_call (takes_of rfl rfl rfl rfl) fun _ _ _ _ z => z)))
      (pss_cons (ps_expr (pe_meth (pv 0) T.cl mE GE hr4 bE .nil (passes_call (takes_of rfl rfl rfl rfl) fun _ _ _ _ z => z) (pa_cons pe_str pa_nil)))
      (pss_cons (ps_set (i := 2) scSpot.nd rfl (.inl rfl) (pe_ifExp (pt_val (pe_meth (pv 0) T.cl mS GS hr1 bS .nil pass0 (pa_cons pe_str pa_nil))) pe_str
        (pe_meth0 (pv 0) T.cl mN GN hr4 bN .nil (passes_call (takes_of rfl rfl rfl rfl) fun _ _ _ _ z => z))))
      (pss_cons (ps_expr (pe_meth (pv 0) T.cl mE GE hr4 bE .nil (passes_call (takes_of rfl rfl rfl rfl) fun _ _ _ _ z => z) (pa_cons pe_str pa_nil)))
      (pss_one (ps_ret (pe_tup (pa_cons (pv 1) (pa_cons (pv 2) (pa_cons (pe_meth (pv 0) T.cl mP GP hr bP .nil (passes_call (takes_of rfl rfl rfl rfl) fun _ _ _ _ z => z) (pa_cons pe_bl pa_nil)) pa_nil))))))))), ?_⟩
    unfold rSpot at q1 q2
    refine meth0 hs rfl (by decide +kernel) (by decide +kernel) ⟨p, x, l, rfl, hs, fun H1 v1 d1 l1 e1 k1 s1 r1 => ?_, fun e1 => q2 (by rw [e1]; rfl)⟩
    rw [e1] at q1 q2
    obtain ⟨y, rfl, hy⟩ := r1
    obtain ⟨dx1, a1, hp1, _⟩ := id s1
    refine ⟨.ref p, rfl, p, dx1, _, rfl, hp1, flds_no _ _ (by decide +kernel) (by decide +kernel), p, x, l1, _, rfl, s1, by decide +kernel, fun H2 l2 e2 k2 s2 => ?_, fun e2 => (q2 ?_).of k1⟩
    · rw [cp_slash] at e2
      obtain ⟨dx2, a2, hp2, _⟩ := id s2
      have q1' : ∀ H' v d l', ((if (acc [47] l2).isSome then some ([], l2) else rName l2).bind fun o => (acc [47] o.2).bind fun r2 => (rPath true r2).map fun p => (D.tup [.str d1, .str o.1, .tup p.1], p.2)) = some (d, l') → Kept p H H' → Sc C H' p x l' → Rep H' v d → Q v H' := fun H' v d l' e => q1 H' v d l' (by
        show ((acc [47] l1).bind _) = _
        rw [e2]
        exact e)
      have q2' : ((if (acc [47] l2).isSome then some ([], l2) else rName l2).bind fun o => (acc [47] o.2).bind fun r2 => (rPath true r2).map fun p => (D.tup [.str d1, .str o.1, .tup p.1], p.2)) = none → Err CB p x H E := fun e => q2 (by
        show ((acc [47] l1).bind _) = _
        rw [e2]
        exact e)
      -- behind the owner
      have tail : ∀ (o : List Nat) (l3 : List Nat) (yo : Str) (H3 : Hp), (if (acc [47] l2).isSome then some ([], l2) else rName l2) = some (o, l3) → Kept p H H3 → Sc C H3 p x l3 → cp yo = o →
          (tSeq (tDrop (tMeth C "expect" (spExp C CB) [] E (tVar 0) (tCons (tC (.str "/")) tNil))) (tRet (tTup (tCons (tVar 1) (tCons (tVar 2) (tCons (tMeth C "take_path" (spRd C CB (rPath true) repL [.bl true]) [] E (tVar 0) (tCons (tC (.bl true)) tNil)) tNil))))))
            { nx := fun x H' => Q V.non H', rt := Q } [some (.ref p), some (.str y), some (.str yo)] H3 := fun o l3 yo H3 eo k3 s3 hyo => by
        rw [eo] at q1' q2'
        obtain ⟨dx3, a3, hp3, _⟩ := id s3
        refine ⟨.ref p, rfl, p, dx3, _, rfl, hp3, flds_no _ _ (by decide +kernel) (by decide +kernel), p, x, l3, _, rfl, s3, by decide +kernel, fun H4 l4 e4 k4 s4 => ?_, fun e4 => (q2' ?_).of k3⟩
        · rw [cp_slash] at e4
          obtain ⟨dx4, a4, hp4, _⟩ := id s4
          refine ⟨_, rfl, _, rfl, .ref p, rfl, p, dx4, _, rfl, hp4, flds_no _ _ (by decide +kernel) (by decide +kernel), p, x, l4, rfl, s4, fun H5 v5 d5 l5 e5 k5 s5 r5 => ?_, fun e5 => (q2' ?_).of (k3.trans k4)⟩
          · refine ⟨by show 3 ≤ _; decide, fun t ht => ?_⟩
            have sm : Same H5 (upd H5 t (.tup [.str y, .str yo, v5])) := same_upd ht
            refine q1' _ _ (.tup [.str d1, .str o, .tup d5]) l5 ?_ (((k3.trans k4).trans k5).trans (Kept.ofSame sm)) (s5.same sm) (.tup upd_same (.cons (Rep.str' hy) (.cons (Rep.str' hyo) (.cons (r5.keep (TupK.same sm)) .nil))))
            show ((acc [47] l3).bind _) = _
            rw [e4]
            show ((rPath true l4).map _) = _
            rw [e5]
            rfl
          · show ((acc [47] l3).bind _) = none
            rw [e4]
            show ((rPath true l4).map _) = none
            rw [e5]
            rfl
        · rw [cp_slash] at e4
          show ((acc [47] l3).bind _) = none
          rw [e4]
          rfl
      refine ⟨.ref p, rfl, p, dx2, _, rfl, hp2, flds_no _ _ (by decide +kernel) (by decide +kernel), p, x, l2, _, rfl, s2, by decide +kernel, _, rfl, ?_⟩
      rw [cp_slash]
      cases es : (acc [47] l2).isSome with
      | true =>
        refine iteT ?_
        exact tail [] l2 _ H2 (by rw [es]; rfl) (k1.trans k2) s2 (by decide +kernel)
      | false =>
        refine iteF (meth0 s2 rfl (by decide +kernel) (by decide +kernel) ⟨p, x, l2, rfl, s2, fun H3 v3 d3 l3 e3 k3 s3 r3 => ?_, fun e3 => (q2' ?_).of (k1.trans k2)⟩)
        · obtain ⟨yo, rfl, hyo⟩ := r3
          exact tail d3 l3 yo H3 (by rw [es]; exact e3) ((k1.trans k2).trans k3) s3 hyo
        · rw [es]
          show ((rName l2).bind _) = none
          rw [e3]
          rfl
    · rw [cp_slash] at e2
      show ((acc [47] l1).bind _) = none
      rw [e2]
      rfl
end
end K9

set_option maxHeartbeats 2000000
/-! The readers of rows, records. -/
namespace K9
open PySem PySem.Spec PyProof.Rows L2 K2

theorem scRows : FnScope ["self", "depth", "rows", "serial"] ["self", "depth"] (defScope mRows) := ⟨rfl, rfl, rfl, by decide +kernel, rfl, by decide +kernel, by decide +kernel⟩
theorem scRec : FnScope ["self", "depth", "pairs", "name"] ["self", "depth"] (defScope mRecord) := ⟨rfl, rfl, rfl, by decide +kernel, rfl, by decide +kernel, by decide +kernel⟩
theorem scCont : FnScope ["self", "depth"] ["self", "depth"] (defScope mContent) := ⟨rfl, rfl, rfl, by decide +kernel, rfl, by decide +kernel, by decide +kernel⟩

theorem cp_rowEnd : cp (Str.ofString " ]") = [32, 93] := by decide +kernel
theorem cp_recEnd : cp (Str.ofString " }") = [32, 125] := by decide +kernel
theorem cp_blank : cp (Str.ofString " ") = [32] := by decide +kernel
theorem cp_open : cp (Str.ofString "{") = [123] := by decide +kernel
theorem cp_colon : cp (Str.ofString ": ") = [58, 32] := by decide +kernel
theorem cp_brack : cp (Str.ofString "[") = [91] := by decide +kernel
theorem cp_empty : cp (Str.ofString "{ }") = [123, 32, 125] := by decide +kernel

/-- a reader leaves no more than there was -/
def Less {α : Type} (r : List Nat → Option (α × List Nat)) : Prop := ∀ l d l', r l = some (d, l') → l'.length ≤ l.length
theorem acc_less {s l l' : List Nat} (h : acc s l = some l') : l'.length ≤ l.length := by
  have := acc_len h
  omega
theorem rSer_less : Less rSer := fun l d l' h => by
  rw [rSer_some h]
  simp
  omega
theorem rName_less : Less rName := fun l d l' h => by
  rw [(rName_some h).1, List.length_append]
  omega
theorem rLit_less : Less rLit := fun l d l' h => by
  rw [(rLit_some h).1, List.length_append]
  omega
theorem rRec_less (n : Nat) : Less (rRec n) := fun l d l' h => by
  rw [(rRec_some h).1, List.length_append]
  omega

theorem rRows_end {rec : List Nat → R (List D)} {n : Nat} {l l' : List Nat} (h : acc [32, 93] l = some l') : rRows rec n l = some ([], l') := by
  cases n with
  | zero =>
    unfold rRows
    rw [h]
    rfl
  | succ n =>
    unfold rRows
    rw [h]
theorem rPairs_end {rec : List Nat → R (List D)} {n : Nat} {l l' : List Nat} (h : acc [32, 125] l = some l') : rPairs rec n l = some ([], l') := by
  cases n with
  | zero =>
    unfold rPairs
    rw [h]
    rfl
  | succ n =>
    unfold rPairs
    rw [h]

section
variable {P : Program} {w : World} {K : PySem.W.Frag} {mg : Str → Option Value} {base : Heap} {C CB fB : Addr}

theorem ok_rows {n k : Nat} (hk : 6 ≤ k) {f fA fE fS fR : Addr} {fd fdA fdE fdS fdR : FuncData} (F : Fun K "take_rows" "Scanner.take_rows" mRows f fd) (T : Txt K mg C CB fB) (mT : mg "tuple" = none)
    (bA : Binds K fdA ["self", "sign"] []) (GA : FnOk P w K mg base CX0 2 fA fdA ["self", "sign"] (spAcc C)) (mA : Meth K C "accepts" fA)
    (bE : Binds K fdE ["self", "sign"] []) (GE : FnOk P w K mg base (CX P w) 4 fE fdE ["self", "sign"] (spExp C CB)) (mE : Meth K C "expect" fE)
    (bS : Binds K fdS ["self"] []) (GS : FnOk P w K mg base (CX P w) 5 fS fdS ["self"] (spRd C CB rSer repN [])) (mS : Meth K C "take_serial" fS)
    (bR : Binds K fdR ["self", "depth"] []) (GR : FnOk P w K mg base (CX P w) k fR fdR ["self", "depth"] (spRd C CB (rRec n) repL [.int (40 - (n : Int))])) (mR : Meth K C "take_record" fR) :
    FnOk P w K mg base (CX P w) (k + 1) f fd ["self", "depth"] (spRd C CB (fun l => rRows (rRec n) l.length l) repL [.int (39 - (n : Int))]) := by
  refine F.okX scRows (fun vs H Q E h => ?_) (fun cdv A outer s H vs Q E hr h => ?_)
  · obtain ⟨p, x, l, rfl, _⟩ := h
    rfl
  · obtain ⟨p, x, l, rfl, hs, q1, q2⟩ := h
    have hr2 := hr.mono (show 2 ≤ k by omega)
    have hr4 := hr.mono (show 4 ≤ k by omega)
    have hr5 := hr.mono (show 5 ≤ k by omega)
    refine ⟨_, pss_cons (ps_set (i := 2) scRows.nd rfl (.inl rfl) (pe_lst pa_nil))
      (pss_cons (ps_while PassesOwn.leaving (pt_not (pt_val (pe_meth (pv 0) T.cl mA GA hr2 bA .nil pass0 (pa_cons pe_str pa_nil))))
        (pss_cons (ps_expr (pe_meth (pv 0) T.cl mE GE hr4 bE .nil (passes_call (takes_of rfl rfl rfl rfl) fun _ _ _ _ z => z) (pa_cons pe_str pa_nil)))
        (pss_cons (ps_set (i := 3) scRows.nd rfl (.inl rfl) (pe_meth0 (pv 0) T.cl mS GS hr5 bS .nil (passes_call (takes_of rfl rfl rfl rfl) fun _ _ _ _ z => z)))
        (pss_cons (ps_expr (pe_meth (pv 0) T.cl mE GE hr4 bE .nil (passes_call (takes_of rfl rfl rfl rfl) fun _ _ _ _ z => z) (pa_cons pe_str pa_nil)))
        (pss_one (ps_expr (pe_bm PySem.F.plainAttrs_list PySem.F.slot_list_append PySem.F.type_list_append mt_append (pv 2)
          (pa_cons (pe_tup (pa_cons (pv 3) (pa_cons (pe_meth (pv 0) T.cl mR GR hr bR .nil (passes_call (takes_of rfl rfl rfl rfl) fun _ _ _ _ z => z) (pa_cons (pe_op op_add (pv 1) pe_int) pa_nil)) pa_nil))) pa_nil))))))))
      (pss_one (ps_ret (pe_callTy call_tuple_of (by rfl) mT (by decide +kernel) (pa_cons (pv 2) pa_nil))))), ?_⟩
    obtain ⟨dx, a, hp, ps⟩ := id hs
    have pl := ps.len
    have psm := ps.sm
    refine ⟨by show 0 ≤ _; decide, fun b hb => ?_⟩
    have sm1 : Same H (upd H b (.lst [])) := same_upd hb
    refine ⟨fun m σ H' => ∃ (l' : List Nat) (vs : List V) (ds : List D) (j : Nat) (o : Option V), m = l'.length ∧ σ = [some (.ref p), some (.int (39 - (n : Int))), some (.ref b), o] ∧ Kept p H H' ∧ Sc C H' p x l' ∧ H' b = some (.lst vs) ∧ RepL H' vs ds ∧ vs.length + l'.length ≤ l.length ∧ l'.length ≤ j ∧
      rRows (rRec n) l.length l = (rRows (rRec n) j l').map fun y => (ds ++ y.1, y.2),
      ⟨_, l, [], [], l.length, none, rfl, rfl, Kept.ofSame sm1, hs.same sm1, upd_same, .nil, by simp, Nat.le_refl _, by
        rw [show (fun y : List D × List Nat => ([] ++ y.1, y.2)) = id from rfl, Option.map_id]
        rfl⟩, ?_⟩
    rintro m σ H' ⟨l', vs, ds, j, o, rfl, rfl, k', s', hb', r', hn, hf, er⟩
    obtain ⟨dx', a', hp', ps'⟩ := id s'
    have nb : b ≠ p := by
      rintro rfl
      rw [hb'] at hp'
      cases hp'
    refine ⟨.ref p, rfl, p, dx', _, rfl, hp', flds_no _ _ (by decide +kernel) (by decide +kernel), p, x, l', _, rfl, s', by decide +kernel, fun H2 l2 e2 k2 s2 => ⟨_, rfl, iteF ?_⟩, fun e2 => ⟨_, rfl, iteT ?_⟩⟩
    · rw [cp_rowEnd] at e2
      rw [rRows_end e2] at er
      have hb2 : H2 b = some (.lst vs) := k2 _ _ hb' nb
      refine ⟨.ref b, rfl, b, vs, rfl, .inl ⟨SqL.of hb2, fun t ht => ?_⟩⟩
      have sm2 : Same H2 (upd H2 t (.tup vs)) := same_upd ht
      refine q1 _ _ ds l2 ?_ ((k'.trans k2).trans (Kept.ofSame sm2)) (s2.same sm2) (.tup upd_same ((r'.keep (s'.tupK k2)).keep (TupK.same sm2)))
      show rRows (rRec n) l.length l = _
      rw [er]
      show some (ds ++ [], l2) = _
      rw [List.append_nil]
    · rw [cp_rowEnd] at e2
      refine ⟨fun σ' H' => ∃ m', m' < l'.length ∧ ∃ (l' : List Nat) (vs : List V) (ds : List D) (j : Nat) (o : Option V), m' = l'.length ∧ σ' = [some (.ref p), some (.int (39 - (n : Int))), some (.ref b), o] ∧ Kept p H H' ∧ Sc C H' p x l' ∧ H' b = some (.lst vs) ∧ RepL H' vs ds ∧ vs.length + l'.length ≤ l.length ∧ l'.length ≤ j ∧
        rRows (rRec n) l.length l = (rRows (rRec n) j l').map fun y => (ds ++ y.1, y.2), fun _ _ w => w, ?_⟩
      -- expect(" ")
      refine ⟨.ref p, rfl, p, dx', _, rfl, hp', flds_no _ _ (by decide +kernel) (by decide +kernel), p, x, l', _, rfl, s', by decide +kernel, fun H3 l3 e3 k3 s3 => ?_, fun e3 => (q2 ?_).of k'⟩
      · rw [cp_blank] at e3
        have len3 := acc_len e3
        simp only [List.length_cons, List.length_nil] at len3
        obtain ⟨j', rfl⟩ : ∃ j', j = j' + 1 := ⟨j - 1, by omega⟩
        rw [rRows, e2] at er
        simp only [e3] at er
        -- the serial
        refine meth0 s3 rfl (by decide +kernel) (by decide +kernel) ⟨p, x, l3, rfl, s3, fun H4 v4 n4 l4 e4 k4 s4 r4 => ?_, fun e4 => (q2 ?_).of (k'.trans k3)⟩
        · obtain rfl : v4 = .int (n4 : Int) := r4
          have len4 := rSer_less _ _ _ e4
          obtain ⟨dx4, a4, hp4, _⟩ := id s4
          refine ⟨.ref p, rfl, p, dx4, _, rfl, hp4, flds_no _ _ (by decide +kernel) (by decide +kernel), p, x, l4, _, rfl, s4, by decide +kernel, fun H5 l5 e5 k5 s5 => ?_, fun e5 => (q2 ?_).of ((k'.trans k3).trans k4)⟩
          · rw [cp_blank] at e5
            have len5 := acc_less e5
            obtain ⟨dx5, a5, hp5, _⟩ := id s5
            have k35 : Kept p H' H5 := (k3.trans k4).trans k5
            have hb5 : H5 b = some (.lst vs) := k35 _ _ hb' nb
            refine ⟨.ref b, rfl, .inl ⟨rfl, _, SqL.of hb5⟩, _, rfl, .ref p, rfl, p, dx5, _, rfl, hp5, flds_no _ _ (by decide +kernel) (by decide +kernel), _, rfl, _, _, rfl, rfl, ?_⟩
            refine ⟨p, x, l5, ?_, s5, fun H6 v6 d6 l6 e6 k6 s6 r6 => ?_, fun e6 => (q2 ?_).of (k'.trans k35)⟩
            · show [V.ref p, V.int (39 - (n : Int) + 1)] = _
              rw [show 39 - (n : Int) + 1 = 40 - (n : Int) by omega]
            · have len6 := rRec_less n _ _ _ e6
              refine ⟨by show 2 ≤ _; decide, fun t ht => ?_⟩
              have k6' : Kept p H' H6 := k35.trans k6
              have hb6 : H6 b = some (.lst vs) := k6' _ _ hb' nb
              have sm7 : Same H6 (upd H6 t (.tup [.int (n4 : Int), v6])) := same_upd ht
              have hb7 : (upd H6 t (.tup [.int (n4 : Int), v6])) b = some (.lst vs) := sm7 _ _ hb6
              have vl : vs.length < sizeLine := Nat.lt_of_le_of_lt (show vs.length ≤ most by omega) (by decide)
              refine ⟨b, vs, .ref t, rfl, rfl, hb7, vl, ?_⟩
              refine ⟨_, ?_, l6, vs ++ [.ref t], ds ++ [.tup [.int (n4 : Int), .tup d6]], j', _, rfl, rfl, ?_, (s6.same sm7).upd nb, upd_same, ?_, ?_, by omega, ?_⟩
              · omega
              · exact Kept.new ((k'.trans k6').trans (Kept.ofSame sm7)) hb
              · have r7 := (r'.keep (s'.tupK k6')).keep (TupK.same sm7)
                have rt : Rep (upd H6 t (.tup [.int (n4 : Int), v6])) (.ref t) (.tup [.int (n4 : Int), .tup d6]) := .tup upd_same (.cons (.int _) (.cons (r6.keep (TupK.same sm7)) .nil))
                exact (r7.snoc rt).keep (TupK.lst hb7)
              · rw [List.length_append, List.length_singleton]
                omega
              · rw [er]
                show Option.map _ ((rSer l3).bind _) = _
                rw [e4]
                show Option.map _ ((acc [32] l4).bind _) = _
                rw [e5]
                show Option.map _ ((rRec n l5).bind _) = _
                rw [e6]
                show Option.map _ (Option.map _ (rRows (rRec n) j' l6)) = _
                rw [Option.map_map]
                refine congrArg (fun g => Option.map g (rRows (rRec n) j' l6)) (funext fun y => ?_)
                show (ds ++ D.tup [.int (n4 : Int), .tup d6] :: y.1, y.2) = _
                rw [List.append_assoc]
                rfl
            · show rRows (rRec n) l.length l = _
              rw [er]
              show Option.map _ ((rSer l3).bind _) = _
              rw [e4]
              show Option.map _ ((acc [32] l4).bind _) = _
              rw [e5]
              show Option.map _ ((rRec n l5).bind _) = _
              rw [e6]
              rfl
          · rw [cp_blank] at e5
            show rRows (rRec n) l.length l = _
            rw [er]
            show Option.map _ ((rSer l3).bind _) = _
            rw [e4]
            show Option.map _ ((acc [32] l4).bind _) = _
            rw [e5]
            rfl
        · show rRows (rRec n) l.length l = _
          rw [er]
          show Option.map _ ((rSer l3).bind _) = _
          rw [e4]
          rfl
      · rw [cp_blank] at e3
        show rRows (rRec n) l.length l = _
        rw [er]
        cases j with
        | zero =>
          unfold rRows
          rw [e2]
          rfl
        | succ j =>
          rw [rRows, e2]
          simp only [e3]
          rfl
end
end K9

set_option maxHeartbeats 2000000
/-! The readers of records. -/
namespace K9
open PySem PySem.Spec PyProof.Rows L2 K2

theorem rRows_less {rec : List Nat → R (List D)} (hr : Less rec) : ∀ n, Less (rRows rec n)
  | 0, l, d, l', h => by
    unfold rRows at h
    obtain ⟨r1, h1, h2⟩ := Option.map_eq_some_iff.mp h
    cases h2
    exact acc_less h1
  | n + 1, l, d, l', h => by
    unfold rRows at h
    split at h
    · next r1 e =>
      cases h
      exact acc_less e
    · obtain ⟨r1, h1, h⟩ := Option.bind_eq_some_iff.mp h
      obtain ⟨s, h2, h⟩ := Option.bind_eq_some_iff.mp h
      obtain ⟨r2, h3, h⟩ := Option.bind_eq_some_iff.mp h
      obtain ⟨e, h4, h⟩ := Option.bind_eq_some_iff.mp h
      obtain ⟨y, h5, h6⟩ := Option.map_eq_some_iff.mp h
      cases h6
      have a1 := acc_less h1
      have a2 := rSer_less _ _ _ h2
      have a3 := acc_less h3
      have a4 := hr _ _ _ h4
      have a5 := rRows_less hr n _ _ _ h5
      omega
theorem rCont_less {rec : List Nat → R (List D)} (hr : Less rec) : Less (rCont rec) := fun l d l' h => by
  unfold rCont at h
  split at h
  · next r1 e =>
    obtain ⟨y, h5, h6⟩ := Option.map_eq_some_iff.mp h
    cases h6
    have a1 := acc_less e
    have a5 := rRows_less hr _ _ _ _ h5
    omega
  · split at h
    · cases h
    · split at h
      · obtain ⟨y, h5, h6⟩ := Option.map_eq_some_iff.mp h
        cases h6
        exact hr _ _ _ h5
      · exact rLit_less _ _ _ h

section
variable {P : Program} {w : World} {K : PySem.W.Frag} {mg : Str → Option Value} {base : Heap} {C CB fB : Addr}

theorem ok_cont {n k : Nat} (hk : 6 ≤ k) {f fA fS fF fL fW fR : Addr} {fd fdA fdS fdF fdL fdW fdR : FuncData} (F : Fun K "take_content" "Scanner.take_content" mContent f fd) (T : Txt K mg C CB fB)
    (bA : Binds K fdA ["self", "sign"] []) (GA : FnOk P w K mg base CX0 2 fA fdA ["self", "sign"] (spAcc C)) (mA : Meth K C "accepts" fA)
    (bS : Binds K fdS ["self", "sign"] []) (GS : FnOk P w K mg base CX0 1 fS fdS ["self", "sign"] (spSees C)) (mS : Meth K C "sees" fS)
    (bF : Binds K fdF ["self"] []) (GF : FnOk P w K mg base (CX P w) 3 fF fdF ["self"] (spRefuse C CB)) (mF : Meth K C "refuse" fF)
    (bL : Binds K fdL ["self"] []) (GL : FnOk P w K mg base (CX P w) 5 fL fdL ["self"] (spRd C CB rLit Rep [])) (mL : Meth K C "take_literal" fL)
    (bW : Binds K fdW ["self", "depth"] []) (GW : FnOk P w K mg base (CX P w) (k + 1) fW fdW ["self", "depth"] (spRd C CB (fun l => rRows (rRec n) l.length l) repL [.int (39 - (n : Int))])) (mW : Meth K C "take_rows" fW)
    (bR : Binds K fdR ["self", "depth"] []) (GR : FnOk P w K mg base (CX P w) k fR fdR ["self", "depth"] (spRd C CB (rRec n) repL [.int (40 - (n : Int))])) (mR : Meth K C "take_record" fR) :
    FnOk P w K mg base (CX P w) (k + 2) f fd ["self", "depth"] (spRd C CB (rCont (rRec n)) Rep [.int (39 - (n : Int))]) := by
  refine F.okX scCont (fun vs H Q E h => ?_) (fun cdv A outer s H vs Q E hr h => ?_)
  · obtain ⟨p, x, l, rfl, _⟩ := h
    rfl
  · obtain ⟨p, x, l, rfl, hs, q1, q2⟩ := h
    have hr1 := hr.mono (show 1 ≤ k + 1 by omega)
    have hr2 := hr.mono (show 2 ≤ k + 1 by omega)
    have hr3 := hr.mono (show 3 ≤ k + 1 by omega)
    have hr5 := hr.mono (show 5 ≤ k + 1 by omega)
    have hrk := hr.mono (show k ≤ k + 1 by omega)
    refine ⟨_, pss_cons (ps_if (pt_val (pe_meth (pv 0) T.cl mA GA hr2 bA .nil pass0 (pa_cons pe_str pa_nil)))
        (pss_one (ps_ret (pe_meth (pv 0) T.cl mW GW hr bW .nil (passes_call (takes_of rfl rfl rfl rfl) fun _ _ _ _ z => z) (pa_cons (pv 1) pa_nil)))) pss_nil)
      (pss_cons (ps_if (pt_val (pe_meth (pv 0) T.cl mS GS hr1 bS .nil pass0 (pa_cons pe_str pa_nil)))
        (pss_one (ps_expr (pe_meth0 (pv 0) T.cl mF GF hr3 bF .nil (passes_call (takes_of rfl rfl rfl rfl) fun _ _ _ _ z => z)))) pss_nil)
      (pss_one (ps_ret (pe_ifExp (pt_val (pe_meth (pv 0) T.cl mS GS hr1 bS .nil pass0 (pa_cons pe_str pa_nil)))
        (pe_meth (pv 0) T.cl mR GR hrk bR .nil (passes_call (takes_of rfl rfl rfl rfl) fun _ _ _ _ z => z) (pa_cons (pe_op op_add (pv 1) pe_int) pa_nil))
        (pe_meth0 (pv 0) T.cl mL GL hr5 bL .nil (passes_call (takes_of rfl rfl rfl rfl) fun _ _ _ _ z => z)))))), ?_⟩
    obtain ⟨dx, a, hp, ps⟩ := id hs
    unfold rCont at q1 q2
    refine ⟨.ref p, rfl, p, dx, _, rfl, hp, flds_no _ _ (by decide +kernel) (by decide +kernel), p, x, l, _, rfl, hs, by decide +kernel, fun H1 l1 e1 k1 s1 => ⟨_, rfl, iteT ?_⟩, fun e1 => ⟨_, rfl, iteF ?_⟩⟩
    · rw [cp_brack] at e1
      rw [e1] at q1 q2
      obtain ⟨dx1, a1, hp1, _⟩ := id s1
      refine ⟨.ref p, rfl, p, dx1, _, rfl, hp1, flds_no _ _ (by decide +kernel) (by decide +kernel), _, rfl, p, x, l1, rfl, s1, fun H2 v ds l2 e2 k2 s2 r2 => ?_, fun e2 => (q2 ?_).of k1⟩
      · refine q1 H2 v (.tup ds) l2 ?_ (k1.trans k2) s2 r2
        show (rRows (rRec n) l1.length l1).map _ = _
        rw [show rRows (rRec n) l1.length l1 = _ from e2]
        rfl
      · show (rRows (rRec n) l1.length l1).map _ = _
        rw [show rRows (rRec n) l1.length l1 = _ from e2]
        rfl
    · rw [cp_brack] at e1
      rw [e1] at q1 q2
      refine ⟨.ref p, rfl, p, dx, _, rfl, hp, flds_no _ _ (by decide +kernel) (by decide +kernel), p, x, l, _, rfl, hs, by decide +kernel, _, rfl, ?_⟩
      rw [cp_empty]
      cases e2 : (acc [123, 32, 125] l).isSome with
      | true =>
        refine iteT (meth0 hs rfl (by decide +kernel) (by decide +kernel) ⟨p, x, l, rfl, hs, q2 ?_⟩)
        show (if (acc [123, 32, 125] l).isSome = true then none else _) = none
        rw [if_pos e2]
      | false =>
        have q1' : ∀ H' v d l', (if (acc [123] l).isSome then (rRec n l).map fun x => (D.tup x.1, x.2) else rLit l) = some (d, l') → Kept p H H' → Sc C H' p x l' → Rep H' v d → Q v H' := fun H' v d l' e => q1 H' v d l' (by
          show (if (acc [123, 32, 125] l).isSome = true then none else _) = _
          rw [if_neg (by rw [e2]; exact Bool.false_ne_true)]
          exact e)
        have q2' : (if (acc [123] l).isSome then (rRec n l).map fun x => (D.tup x.1, x.2) else rLit l) = none → Err CB p x H E := fun e => q2 (by
          show (if (acc [123, 32, 125] l).isSome = true then none else _) = _
          rw [if_neg (by rw [e2]; exact Bool.false_ne_true)]
          exact e)
        refine iteF ⟨.ref p, rfl, p, dx, _, rfl, hp, flds_no _ _ (by decide +kernel) (by decide +kernel), p, x, l, _, rfl, hs, by decide +kernel, _, rfl, ?_⟩
        rw [cp_open]
        cases e3 : (acc [123] l).isSome with
        | true =>
          rw [e3] at q1' q2'
          refine iteT ⟨.ref p, rfl, p, dx, _, rfl, hp, flds_no _ _ (by decide +kernel) (by decide +kernel), _, rfl, _, _, rfl, rfl, p, x, l, ?_, hs, fun H2 v ds l2 e4 k2 s2 r2 => ?_, fun e4 => q2' ?_⟩
          · show [V.ref p, V.int (39 - (n : Int) + 1)] = _
            rw [show 39 - (n : Int) + 1 = 40 - (n : Int) by omega]
          · refine q1' H2 v (.tup ds) l2 ?_ k2 s2 r2
            show (rRec n l).map _ = _
            rw [e4]
            rfl
          · show (rRec n l).map _ = _
            rw [e4]
            rfl
        | false =>
          rw [e3] at q1' q2'
          refine iteF (meth0 hs rfl (by decide +kernel) (by decide +kernel) ⟨p, x, l, rfl, hs, fun H2 v d l2 e4 k2 s2 r2 => q1' H2 v d l2 e4 k2 s2 r2, fun e4 => q2' e4⟩)

/-- too deep -/
theorem ok_rec0 {f fF : Addr} {fd fdF : FuncData} (F : Fun K "take_record" "Scanner.take_record" mRecord f fd) (T : Txt K mg C CB fB) (N : K2.Names mg)
    (bF : Binds K fdF ["self"] []) (GF : FnOk P w K mg base (CX P w) 3 fF fdF ["self"] (spRefuse C CB)) (mF : Meth K C "refuse" fF) :
    FnOk P w K mg base (CX P w) 6 f fd ["self", "depth"] (spRd C CB (rRec 0) repL [.int (40 - ((0 : Nat) : Int))]) := by
  obtain ⟨td, gd⟩ := N.dee
  refine F.okX scRec (fun vs H Q E h => ?_) (fun cdv A outer s H vs Q E hr h => ?_)
  · obtain ⟨p, x, l, rfl, _⟩ := h
    rfl
  · obtain ⟨p, x, l, rfl, hs, q1, q2⟩ := h
    have hr3 := hr.mono (show 3 ≤ 5 by omega)
    refine ⟨_, pss_cons (ps_if (pt_cmpR op_eq (pv 1) (pe_glob (v := .int 40) rfl gd ⟨_, rfl⟩) (nomark _))
        (pss_one (ps_expr (pe_meth0 (pv 0) T.cl mF GF hr3 bF .nil (passes_call (takes_of rfl rfl rfl rfl) fun _ _ _ _ z => z)))) pss_nil)
      (pss_cons ps_never (pss_cons ps_never (pss_cons ps_never (pss_one ps_never)))), ?_⟩
    refine ⟨_, rfl, rfl, _, rfl, ?_⟩
    rw [decide_eq_true (by rfl)]
    exact iteT (meth0 hs rfl (by decide +kernel) (by decide +kernel) ⟨p, x, l, rfl, hs, q2 rfl⟩)

theorem ok_recS {n k : Nat} (hk : 6 ≤ k) (hn : n < 40) {f fF fA fE fN fC : Addr} {fd fdF fdA fdE fdN fdC : FuncData} (F : Fun K "take_record" "Scanner.take_record" mRecord f fd) (T : Txt K mg C CB fB) (N : K2.Names mg) (mT : mg "tuple" = none)
    (bF : Binds K fdF ["self"] []) (GF : FnOk P w K mg base (CX P w) 3 fF fdF ["self"] (spRefuse C CB)) (mF : Meth K C "refuse" fF)
    (bA : Binds K fdA ["self", "sign"] []) (GA : FnOk P w K mg base CX0 2 fA fdA ["self", "sign"] (spAcc C)) (mA : Meth K C "accepts" fA)
    (bE : Binds K fdE ["self", "sign"] []) (GE : FnOk P w K mg base (CX P w) 4 fE fdE ["self", "sign"] (spExp C CB)) (mE : Meth K C "expect" fE)
    (bN : Binds K fdN ["self"] []) (GN : FnOk P w K mg base (CX P w) 4 fN fdN ["self"] (spRd C CB rName repS [])) (mN : Meth K C "take_name" fN)
    (bC : Binds K fdC ["self", "depth"] []) (GC : FnOk P w K mg base (CX P w) k fC fdC ["self", "depth"] (spRd C CB (rCont (rRec n)) Rep [.int (39 - (n : Int))])) (mC : Meth K C "take_content" fC) :
    FnOk P w K mg base (CX P w) (k + 1) f fd ["self", "depth"] (spRd C CB (rRec (n + 1)) repL [.int (40 - ((n + 1 : Nat) : Int))]) := by
  obtain ⟨td, gd⟩ := N.dee
  refine F.okX scRec (fun vs H Q E h => ?_) (fun cdv A outer s H vs Q E hr h => ?_)
  · obtain ⟨p, x, l, rfl, _⟩ := h
    rfl
  · obtain ⟨p, x, l0, rfl, hs0, q1, q2⟩ := h
    have hr2 := hr.mono (show 2 ≤ k by omega)
    have hr3 := hr.mono (show 3 ≤ k by omega)
    have hr4 := hr.mono (show 4 ≤ k by omega)
    refine ⟨_, pss_cons (ps_if (pt_cmpR op_eq (pv 1) (pe_glob (v := .int 40) rfl gd ⟨_, rfl⟩) (nomark _))
        (pss_one (ps_expr (pe_meth0 (pv 0) T.cl mF GF hr3 bF .nil (passes_call (takes_of rfl rfl rfl rfl) fun _ _ _ _ z => z)))) pss_nil)
      (pss_cons (ps_set (i := 2) scRec.nd rfl (.inl rfl) (pe_lst pa_nil))
      (pss_cons (ps_expr (pe_meth (pv 0) T.cl mE GE hr4 bE .nil (passes_call (takes_of rfl rfl rfl rfl) fun _ _ _ _ z => z) (pa_cons pe_str pa_nil)))
      (pss_cons (ps_while PassesOwn.leaving (pt_not (pt_val (pe_meth (pv 0) T.cl mA GA hr2 bA .nil pass0 (pa_cons pe_str pa_nil))))
        (pss_cons (ps_expr (pe_meth (pv 0) T.cl mE GE hr4 bE .nil (passes_call (takes_of rfl rfl rfl rfl) fun _ _ _ _ z => z) (pa_cons pe_str pa_nil)))
        (pss_cons (ps_set (i := 3) scRec.nd rfl (.inl rfl) (pe_meth0 (pv 0) T.cl mN GN hr4 bN .nil (passes_call (takes_of rfl rfl rfl rfl) fun _ _ _ _ z => z)))
        (pss_cons (ps_expr (pe_meth (pv 0) T.cl mE GE hr4 bE .nil (passes_call (takes_of rfl rfl rfl rfl) fun _ _ _ _ z => z) (pa_cons pe_str pa_nil)))
        (pss_one (ps_expr (pe_bm PySem.F.plainAttrs_list PySem.F.slot_list_append PySem.F.type_list_append mt_append (pv 2)
          (pa_cons (pe_tup (pa_cons (pv 3) (pa_cons (pe_meth (pv 0) T.cl mC GC hr bC .nil (passes_call (takes_of rfl rfl rfl rfl) fun _ _ _ _ z => z) (pa_cons (pv 1) pa_nil)) pa_nil))) pa_nil))))))))
      (pss_one (ps_ret (pe_callTy call_tuple_of (by rfl) mT (by decide +kernel) (pa_cons (pv 2) pa_nil))))))), ?_⟩
    refine ⟨_, rfl, rfl, _, rfl, ?_⟩
    rw [decide_eq_false (by intro c; injection c with c; omega)]
    refine iteF ⟨by show 0 ≤ _; decide, fun b hb => ?_⟩
    have sm0 : Same H (upd H b (.lst [])) := same_upd hb
    have ed : V.int (40 - ((n + 1 : Nat) : Int)) = V.int (39 - (n : Int)) := by rw [show 40 - ((n + 1 : Nat) : Int) = 39 - (n : Int) by omega]
    have s0 := hs0.same sm0
    obtain ⟨dx0, a0, hp0, ps0⟩ := id s0
    have psm := ps0.sm
    have pl0 := ps0.len
    unfold rRec at q1 q2
    refine ⟨.ref p, rfl, p, dx0, _, rfl, hp0, flds_no _ _ (by decide +kernel) (by decide +kernel), p, x, l0, _, rfl, s0, by decide +kernel, fun H1 l e1 k1 hs => ?_, fun e1 => (q2 (by rw [cp_open] at e1; rw [e1]; rfl)).of (Kept.ofSame sm0)⟩
    rw [cp_open] at e1
    rw [e1] at q1 q2
    have len1 := acc_less e1
    obtain ⟨dx, a, hp, ps⟩ := id hs
    have k01 : Kept p H H1 := (Kept.ofSame sm0).trans k1
    have nb0 : b ≠ p := by
      rintro rfl
      rw [upd_same] at hp0
      cases hp0
    have hb1 : H1 b = some (.lst []) := k1 _ _ upd_same nb0
    have q1' : ∀ H' v d l', rPairs (rRec n) l.length l = some (d, l') → Kept p H H' → Sc C H' p x l' → repL H' v d → Q v H' := q1
    have q2' : rPairs (rRec n) l.length l = none → Err CB p x H E := q2
    refine ⟨fun m σ H' => ∃ (l' : List Nat) (vs : List V) (ds : List D) (j : Nat) (o : Option V), m = l'.length ∧ σ = [some (.ref p), some (.int (40 - ((n + 1 : Nat) : Int))), some (.ref b), o] ∧ Kept p H H' ∧ Sc C H' p x l' ∧ H' b = some (.lst vs) ∧ RepL H' vs ds ∧ vs.length + l'.length ≤ l.length ∧ l'.length ≤ j ∧
      rPairs (rRec n) l.length l = (rPairs (rRec n) j l').map fun y => (ds ++ y.1, y.2),
      ⟨_, l, [], [], l.length, none, rfl, rfl, k01, hs, hb1, .nil, by simp, Nat.le_refl _, by
        rw [show (fun y : List D × List Nat => ([] ++ y.1, y.2)) = id from rfl, Option.map_id]
        rfl⟩, ?_⟩
    rintro m σ H' ⟨l', vs, ds, j, o, rfl, rfl, k', s', hb', r', hn', hf, er⟩
    obtain ⟨dx', a', hp', ps'⟩ := id s'
    have nb : b ≠ p := nb0
    refine ⟨.ref p, rfl, p, dx', _, rfl, hp', flds_no _ _ (by decide +kernel) (by decide +kernel), p, x, l', _, rfl, s', by decide +kernel, fun H2 l2 e2 k2 s2 => ⟨_, rfl, iteF ?_⟩, fun e2 => ⟨_, rfl, iteT ?_⟩⟩
    · rw [cp_recEnd] at e2
      rw [rPairs_end e2] at er
      have hb2 : H2 b = some (.lst vs) := k2 _ _ hb' nb
      refine ⟨.ref b, rfl, b, vs, rfl, .inl ⟨SqL.of hb2, fun t ht => ?_⟩⟩
      have sm2 : Same H2 (upd H2 t (.tup vs)) := same_upd ht
      refine q1' _ _ ds l2 ?_ ((k'.trans k2).trans (Kept.ofSame sm2)) (s2.same sm2) (.tup upd_same ((r'.keep (s'.tupK k2)).keep (TupK.same sm2)))
      rw [er]
      show some (ds ++ [], l2) = _
      rw [List.append_nil]
    · rw [cp_recEnd] at e2
      refine ⟨fun σ' H' => ∃ m', m' < l'.length ∧ ∃ (l' : List Nat) (vs : List V) (ds : List D) (j : Nat) (o : Option V), m' = l'.length ∧ σ' = [some (.ref p), some (.int (40 - ((n + 1 : Nat) : Int))), some (.ref b), o] ∧ Kept p H H' ∧ Sc C H' p x l' ∧ H' b = some (.lst vs) ∧ RepL H' vs ds ∧ vs.length + l'.length ≤ l.length ∧ l'.length ≤ j ∧
        rPairs (rRec n) l.length l = (rPairs (rRec n) j l').map fun y => (ds ++ y.1, y.2), fun _ _ w => w, ?_⟩
      refine ⟨.ref p, rfl, p, dx', _, rfl, hp', flds_no _ _ (by decide +kernel) (by decide +kernel), p, x, l', _, rfl, s', by decide +kernel, fun H3 l3 e3 k3 s3 => ?_, fun e3 => (q2' ?_).of k'⟩
      · rw [cp_blank] at e3
        have len3 := acc_len e3
        simp only [List.length_cons, List.length_nil] at len3
        obtain ⟨j', rfl⟩ : ∃ j', j = j' + 1 := ⟨j - 1, by omega⟩
        rw [rPairs, e2] at er
        simp only [e3] at er
        refine meth0 s3 rfl (by decide +kernel) (by decide +kernel) ⟨p, x, l3, rfl, s3, fun H4 v4 d4 l4 e4 k4 s4 r4 => ?_, fun e4 => (q2' ?_).of (k'.trans k3)⟩
        · obtain ⟨y4, rfl, hy4⟩ := r4
          have len4 := rName_less _ _ _ e4
          obtain ⟨dx4, a4, hp4, _⟩ := id s4
          refine ⟨.ref p, rfl, p, dx4, _, rfl, hp4, flds_no _ _ (by decide +kernel) (by decide +kernel), p, x, l4, _, rfl, s4, by decide +kernel, fun H5 l5 e5 k5 s5 => ?_, fun e5 => (q2' ?_).of ((k'.trans k3).trans k4)⟩
          · rw [cp_colon] at e5
            have len5 := acc_less e5
            obtain ⟨dx5, a5, hp5, _⟩ := id s5
            have k35 : Kept p H' H5 := (k3.trans k4).trans k5
            have hb5 : H5 b = some (.lst vs) := k35 _ _ hb' nb
            refine ⟨.ref b, rfl, .inl ⟨rfl, _, SqL.of hb5⟩, _, rfl, .ref p, rfl, p, dx5, _, rfl, hp5, flds_no _ _ (by decide +kernel) (by decide +kernel), _, rfl, ?_⟩
            refine ⟨p, x, l5, ?_, s5, fun H6 v6 d6 l6 e6 k6 s6 r6 => ?_, fun e6 => (q2' ?_).of (k'.trans k35)⟩
            · show [V.ref p, V.int (40 - ((n + 1 : Nat) : Int))] = _
              rw [ed]
            · have len6 := rCont_less (rRec_less n) _ _ _ e6
              refine ⟨by show 2 ≤ _; decide, fun t ht => ?_⟩
              have k6' : Kept p H' H6 := k35.trans k6
              have hb6 : H6 b = some (.lst vs) := k6' _ _ hb' nb
              have sm7 : Same H6 (upd H6 t (.tup [.str y4, v6])) := same_upd ht
              have hb7 : (upd H6 t (.tup [.str y4, v6])) b = some (.lst vs) := sm7 _ _ hb6
              have vl : vs.length < sizeLine := Nat.lt_of_le_of_lt (show vs.length ≤ most by omega) (by decide)
              refine ⟨b, vs, .ref t, rfl, rfl, hb7, vl, ?_⟩
              refine ⟨_, ?_, l6, vs ++ [.ref t], ds ++ [.tup [.str d4, d6]], j', _, rfl, rfl, ?_, (s6.same sm7).upd nb, upd_same, ?_, ?_, by omega, ?_⟩
              · omega
              · exact Kept.new ((k'.trans k6').trans (Kept.ofSame sm7)) hb
              · have r7 := (r'.keep (s'.tupK k6')).keep (TupK.same sm7)
                have rt : Rep (upd H6 t (.tup [.str y4, v6])) (.ref t) (.tup [.str d4, d6]) := .tup upd_same (.cons (Rep.str' hy4) (.cons (r6.keep (TupK.same sm7)) .nil))
                exact (r7.snoc rt).keep (TupK.lst hb7)
              · rw [List.length_append, List.length_singleton]
                omega
              · rw [er]
                show Option.map _ ((rName l3).bind _) = _
                rw [e4]
                show Option.map _ ((acc [58, 32] l4).bind _) = _
                rw [e5]
                show Option.map _ ((rCont (rRec n) l5).bind _) = _
                rw [e6]
                show Option.map _ (Option.map _ (rPairs (rRec n) j' l6)) = _
                rw [Option.map_map]
                refine congrArg (fun g => Option.map g (rPairs (rRec n) j' l6)) (funext fun y => ?_)
                show (ds ++ D.tup [.str d4, d6] :: y.1, y.2) = _
                rw [List.append_assoc]
                rfl
            · rw [er]
              show Option.map _ ((rName l3).bind _) = _
              rw [e4]
              show Option.map _ ((acc [58, 32] l4).bind _) = _
              rw [e5]
              show Option.map _ ((rCont (rRec n) l5).bind _) = _
              rw [e6]
              rfl
          · rw [cp_colon] at e5
            rw [er]
            show Option.map _ ((rName l3).bind _) = _
            rw [e4]
            show Option.map _ ((acc [58, 32] l4).bind _) = _
            rw [e5]
            rfl
        · rw [er]
          show Option.map _ ((rName l3).bind _) = _
          rw [e4]
          rfl
      · rw [cp_blank] at e3
        rw [er]
        cases j with
        | zero =>
          unfold rPairs
          rw [e2]
          rfl
        | succ j =>
          rw [rPairs, e2]
          simp only [e3]
          rfl
end
end K9

set_option maxHeartbeats 2000000
/-! The readers of steps and edits. -/
namespace K9
open PySem PySem.Spec PyProof.Rows L2 K2

/-! ### what is wished of what is left to read -/
structure Wish {α : Type} (C CB p : Addr) (x : Str) (rep : Hp → V → α → Prop) (Q : VK) (E : XK) (H : Hp) (o : Option (α × List Nat)) : Prop where
  ok : ∀ H' v d l', o = some (d, l') → Kept p H H' → Sc C H' p x l' → rep H' v d → Q v H'
  no : o = none → Err CB p x H E
section
variable {α β : Type} {C CB p : Addr} {x : Str} {rep : Hp → V → α → Prop} {Q : VK} {E : XK} {H : Hp}
theorem Wish.of {H1 : Hp} {o : Option (α × List Nat)} (W : Wish C CB p x rep Q E H o) (k : Kept p H H1) : Wish C CB p x rep Q E H1 o :=
  ⟨fun H' v d l' e k' s r => W.ok H' v d l' e (k.trans k') s r, fun e => (W.no e).of k⟩
theorem Wish.done {v : V} {d : α} {l : List Nat} (W : Wish C CB p x rep Q E H (some (d, l))) (s : Sc C H p x l) (r : rep H v d) : Q v H :=
  W.ok H v d l rfl (Kept.refl p H) s r
/-- expect -/
theorem wExp {f : List Nat → Option (α × List Nat)} {l s : List Nat} {z : Str} {σ : L2.St} {q : VK} (hs : Sc C H p x l) (hσ : σ[0]? = some (some (.ref p))) (hz : cp z = s) (hl : s.length ≤ 100)
    (W : Wish C CB p x rep Q E H ((acc s l).bind f)) (h : ∀ H1 l1, acc s l = some l1 → Kept p H H1 → Sc C H1 p x l1 → Wish C CB p x rep Q E H1 (f l1) → q .non H1) :
    tMeth C "expect" (spExp C CB) [] E (tVar 0) (tCons (tC (.str z)) tNil) σ H q := by
  obtain ⟨dx, a, hp, ps⟩ := id hs
  refine ⟨.ref p, hσ, p, dx, _, rfl, hp, flds_no _ _ (by decide +kernel) (by decide +kernel), p, x, l, z, rfl, hs, by rw [hz]; exact hl, fun H1 l1 e k1 s1 => ?_, fun e => W.no ?_⟩
  · rw [hz] at e
    refine h H1 l1 e k1 s1 ?_
    rw [e] at W
    exact W.of k1
  · rw [hz] at e
    rw [e]
    rfl
/-- a reader -/
theorem wRd {rb : Hp → V → β → Prop} {r : List Nat → Option (β × List Nat)} {f : β × List Nat → Option (α × List Nat)} {l : List Nat} {m : Str} {σ : L2.St} {q : VK} (hs : Sc C H p x l) (hσ : σ[0]? = some (some (.ref p)))
    (h1 : ¬ m = "at") (h2 : ¬ m = "whole")
    (W : Wish C CB p x rep Q E H ((r l).bind f)) (h : ∀ H1 v d l1, r l = some (d, l1) → Kept p H H1 → Sc C H1 p x l1 → rb H1 v d → Wish C CB p x rep Q E H1 (f (d, l1)) → q v H1) :
    tMeth C m (spRd C CB r rb []) [] E (tVar 0) tNil σ H q := by
  refine meth0 hs hσ h1 h2 ⟨p, x, l, rfl, hs, fun H1 v d l1 e k1 s1 r1 => ?_, fun e => W.no (by rw [e]; rfl)⟩
  refine h H1 v d l1 e k1 s1 r1 ?_
  rw [e] at W
  exact W.of k1
/-- a reader with one more argument, written -/
theorem wRd1 {rb : Hp → V → β → Prop} {r : List Nat → Option (β × List Nat)} {f : β × List Nat → Option (α × List Nat)} {l : List Nat} {m : Str} {u : V} {σ : L2.St} {q : VK} (hs : Sc C H p x l) (hσ : σ[0]? = some (some (.ref p)))
    (h1 : ¬ m = "at") (h2 : ¬ m = "whole")
    (W : Wish C CB p x rep Q E H ((r l).bind f)) (h : ∀ H1 v d l1, r l = some (d, l1) → Kept p H H1 → Sc C H1 p x l1 → rb H1 v d → Wish C CB p x rep Q E H1 (f (d, l1)) → q v H1) :
    tMeth C m (spRd C CB r rb [u]) [] E (tVar 0) (tCons (tC u) tNil) σ H q := by
  obtain ⟨dx, a, hp, ps⟩ := id hs
  refine ⟨.ref p, hσ, p, dx, _, rfl, hp, flds_no _ _ h1 h2, p, x, l, rfl, hs, fun H1 v d l1 e k1 s1 r1 => ?_, fun e => W.no (by rw [e]; rfl)⟩
  refine h H1 v d l1 e k1 s1 r1 ?_
  rw [e] at W
  exact W.of k1
theorem map_bind {α β : Type} (o : Option α) (g : α → β) : o.map g = o.bind fun x => some (g x) := by
  cases o <;> rfl
end

/-! ### records up to forty deep -/
section
variable {P : Program} {w : World} {K : PySem.W.Frag} {mg : Str → Option Value} {base : Heap} {C CB fB : Addr}
theorem ok_rec {f fF fA fS fE fN fU fC fW fL : Addr} {fd fdF fdA fdS fdE fdN fdU fdC fdW fdL : FuncData} (F : Fun K "take_record" "Scanner.take_record" mRecord f fd) (bf : Binds K fd ["self", "depth"] []) (mf : Meth K C "take_record" f) (T : Txt K mg C CB fB) (N : K2.Names mg) (mT : mg "tuple" = none)
    (bF : Binds K fdF ["self"] []) (GF : FnOk P w K mg base (CX P w) 3 fF fdF ["self"] (spRefuse C CB)) (mF : Meth K C "refuse" fF)
    (bA : Binds K fdA ["self", "sign"] []) (GA : FnOk P w K mg base CX0 2 fA fdA ["self", "sign"] (spAcc C)) (mA : Meth K C "accepts" fA)
    (bS : Binds K fdS ["self", "sign"] []) (GS : FnOk P w K mg base CX0 1 fS fdS ["self", "sign"] (spSees C)) (mS : Meth K C "sees" fS)
    (bE : Binds K fdE ["self", "sign"] []) (GE : FnOk P w K mg base (CX P w) 4 fE fdE ["self", "sign"] (spExp C CB)) (mE : Meth K C "expect" fE)
    (bN : Binds K fdN ["self"] []) (GN : FnOk P w K mg base (CX P w) 4 fN fdN ["self"] (spRd C CB rName repS [])) (mN : Meth K C "take_name" fN)
    (bU : Binds K fdU ["self"] []) (GU : FnOk P w K mg base (CX P w) 5 fU fdU ["self"] (spRd C CB rSer repN [])) (mU : Meth K C "take_serial" fU)
    (bL : Binds K fdL ["self"] []) (GL : FnOk P w K mg base (CX P w) 5 fL fdL ["self"] (spRd C CB rLit Rep [])) (mL : Meth K C "take_literal" fL)
    (FC : Fun K "take_content" "Scanner.take_content" mContent fC fdC) (bC : Binds K fdC ["self", "depth"] []) (mC : Meth K C "take_content" fC)
    (FW : Fun K "take_rows" "Scanner.take_rows" mRows fW fdW) (bW : Binds K fdW ["self", "depth"] []) (mW : Meth K C "take_rows" fW) :
    ∀ n : Nat, n ≤ 40 → FnOk P w K mg base (CX P w) (6 + 3 * n) f fd ["self", "depth"] (spRd C CB (rRec n) repL [.int (40 - (n : Int))])
  | 0, _ => ok_rec0 F T N bF GF mF
  | n + 1, hn => by
    have GR := ok_rec F bf mf T N mT bF GF mF bA GA mA bS GS mS bE GE mE bN GN mN bU GU mU bL GL mL FC bC mC FW bW mW n (by omega)
    have GW := ok_rows (n := n) (k := 6 + 3 * n) (by omega) FW T mT bA GA mA bE GE mE bU GU mU bf GR mf
    have GC := ok_cont (n := n) (k := 6 + 3 * n) (by omega) FC T bA GA mA bS GS mS bF GF mF bL GL mL bW GW mW bf GR mf
    have := ok_recS (n := n) (k := 6 + 3 * n + 2) (by omega) (by omega) F T N mT bF GF mF bA GA mA bE GE mE bN GN mN bC GC mC
    rw [show 6 + 3 * (n + 1) = 6 + 3 * n + 2 + 1 by omega]
    exact this
end

/-! ### steps -/
theorem scStep : FnScope ["scanner", "word", "place", "index", "serial", "other"] ["scanner"] (defScope sTakeStep) := ⟨rfl, rfl, rfl, by decide +kernel, rfl, by decide +kernel, by decide +kernel⟩
/-- a reader that is a def -/
def spFn {α : Type} (C CB : Addr) (r : List Nat → Option (α × List Nat)) (rep : Hp → V → α → Prop) : Sp := fun vs H Q E => ∃ p x l, vs = [.ref p] ∧ Sc C H p x l ∧ Wish C CB p x rep Q E H (r l)
def words4 : List Str := ["set", "take", "put", "carry"]
theorem words4_cp : words4.map cp = [txt "set", txt "take", txt "put", txt "carry"] := by decide +kernel
theorem cp_set : cp (Str.ofString "set") = txt "set" := by decide +kernel
theorem cp_take : cp (Str.ofString "take") = txt "take" := by decide +kernel
theorem cp_put : cp (Str.ofString "put") = txt "put" := by decide +kernel
theorem cp_carry : cp (Str.ofString "carry") = txt "carry" := by decide +kernel
theorem inV_cp (x : Str) : ∀ L : List Str, inV (.str x) (L.map V.str) = (L.map cp).contains (cp x)
  | [] => rfl
  | y :: r => by
    show inV (.str x) (V.str y :: r.map V.str) = (cp y :: r.map cp).contains (cp x)
    have ih := inV_cp x r
    rw [List.contains_cons]
    unfold inV at ih ⊢
    rw [List.any_cons, ih]
    congr 1
    show (y == x) = (cp x == cp y)
    by_cases h : cp x = cp y
    · rw [h, cp_inj h]
      simp
    · have h2 : ¬ y = x := fun e => h (by rw [e])
      rw [beq_eq_false_iff_ne.mpr h2, beq_eq_false_iff_ne.mpr h]
theorem bind_none {α β : Type} (o : Option α) : (o.bind fun _ => (none : Option β)) = none := by
  cases o <;> rfl
theorem rStep_word {l : List Nat} (h : [txt "set", txt "take", txt "put", txt "carry"].contains (rWord l).1 = false) : rStep l = none := by
  have hn : ∀ y ∈ [txt "set", txt "take", txt "put", txt "carry"], ¬ (rWord l).1 = y := fun y hy e => by
    rw [e, List.contains_iff_mem.mpr hy] at h
    cases h
  unfold rStep
  cases acc [32] (rWord l).2 with
  | none => rfl
  | some r1 =>
    show (rPlace r1).bind _ = none
    cases rPlace r1 with
    | none => rfl
    | some q =>
      show (acc [32] q.2).bind _ = none
      cases acc [32] q.2 with
      | none => rfl
      | some r2 =>
        show (if _ then _ else _) = none
        rw [if_neg (hn _ (by simp)), if_neg (hn _ (by simp)), if_neg (hn _ (by simp)), if_neg (hn _ (by simp))]

section
variable {P : Program} {w : World} {K : PySem.W.Frag} {mg : Str → Option Value} {base : Heap} {C CB fB : Addr}
theorem ok_step {f fW fF fE fP fL fU fN fR : Addr} {fd fdW fdF fdE fdP fdL fdU fdN fdR : FuncData} (F : Fun K "take_step" "take_step" sTakeStep f fd) (T : Txt K mg C CB fB)
    (bW : Binds K fdW ["self"] []) (GW : FnOk P w K mg base CX0 2 fW fdW ["self"] (spWord C)) (mW : Meth K C "take_word" fW)
    (bF : Binds K fdF ["self"] []) (GF : FnOk P w K mg base (CX P w) 3 fF fdF ["self"] (spRefuse C CB)) (mF : Meth K C "refuse" fF)
    (bE : Binds K fdE ["self", "sign"] []) (GE : FnOk P w K mg base (CX P w) 4 fE fdE ["self", "sign"] (spExp C CB)) (mE : Meth K C "expect" fE)
    (bP : Binds K fdP ["self"] []) (GP : FnOk P w K mg base (CX P w) 8 fP fdP ["self"] (spRd C CB rPlace Rep [])) (mP : Meth K C "take_place" fP)
    (bL : Binds K fdL ["self"] []) (GL : FnOk P w K mg base (CX P w) 5 fL fdL ["self"] (spRd C CB rLit Rep [])) (mL : Meth K C "take_literal" fL)
    (bU : Binds K fdU ["self"] []) (GU : FnOk P w K mg base (CX P w) 5 fU fdU ["self"] (spRd C CB rSer repN [])) (mU : Meth K C "take_serial" fU)
    (bN : Binds K fdN ["self"] []) (GN : FnOk P w K mg base (CX P w) 4 fN fdN ["self"] (spRd C CB rNum repN [])) (mN : Meth K C "take_number" fN)
    (bR : Binds K fdR ["self", "depth"] []) (GR : FnOk P w K mg base (CX P w) 126 fR fdR ["self", "depth"] (spRd C CB (rRec 40) repL [.int 0])) (mR : Meth K C "take_record" fR) :
    FnOk P w K mg base (CX P w) 127 f fd ["scanner"] (spFn C CB rStep Rep) := by
  refine F.okX scStep (fun vs H Q E h => ?_) (fun cdv A outer s H vs Q E hr h => ?_)
  · obtain ⟨p, x, l, rfl, _⟩ := h
    rfl
  · obtain ⟨p, x, l, rfl, hs, W⟩ := h
    have hr2 := hr.mono (show 2 ≤ 126 by decide)
    have hr3 := hr.mono (show 3 ≤ 126 by decide)
    have hr4 := hr.mono (show 4 ≤ 126 by decide)
    have hr5 := hr.mono (show 5 ≤ 126 by decide)
    have hr8 := hr.mono (show 8 ≤ 126 by decide)
    refine ⟨_, pss_cons (ps_set (i := 1) scStep.nd rfl (.inl rfl) (pe_meth0 (pv 0) T.cl mW GW hr2 bW .nil pass0))
      (pss_cons (ps_if (pt_cmpR op_notIn_seq (pv 1) (pe_tup (pa_cons pe_str (pa_cons pe_str (pa_cons pe_str (pa_cons pe_str pa_nil))))) (by with_unfolding_all rfl))
        (pss_one (ps_expr (pe_meth0 (pv 0) T.cl mF GF hr3 bF .nil (passes_call (takes_of rfl rfl rfl rfl) fun _ _ _ _ z => z)))) pss_nil)
      (pss_cons (ps_expr (pe_meth (pv 0) T.cl mE GE hr4 bE .nil (passes_call (takes_of rfl rfl rfl rfl) fun _ _ _ _ z => z) (pa_cons pe_str pa_nil)))
      (pss_cons (ps_set (i := 2) scStep.nd rfl (.inl rfl) (pe_meth0 (pv 0) T.cl mP GP hr8 bP .nil (passes_call (takes_of rfl rfl rfl rfl) fun _ _ _ _ z => z)))
      (pss_cons (ps_expr (pe_meth (pv 0) T.cl mE GE hr4 bE .nil (passes_call (takes_of rfl rfl rfl rfl) fun _ _ _ _ z => z) (pa_cons pe_str pa_nil)))
      (pss_cons (ps_if (pt_cmpR op_eq (pv 1) pe_str (nomark _))
        (pss_one (ps_ret (pe_tup (pa_cons (pv 1) (pa_cons (pv 2) (pa_cons (pe_meth0 (pv 0) T.cl mL GL hr5 bL .nil (passes_call (takes_of rfl rfl rfl rfl) fun _ _ _ _ z => z)) pa_nil)))))) pss_nil)
      (pss_cons (ps_if (pt_cmpR op_eq (pv 1) pe_str (nomark _))
        (pss_one (ps_ret (pe_tup (pa_cons (pv 1) (pa_cons (pv 2) (pa_cons (pe_meth0 (pv 0) T.cl mU GU hr5 bU .nil (passes_call (takes_of rfl rfl rfl rfl) fun _ _ _ _ z => z)) pa_nil)))))) pss_nil)
      (pss_cons (ps_if (pt_cmpR op_eq (pv 1) pe_str (nomark _))
        (pss_cons (ps_set (i := 3) scStep.nd rfl (.inl rfl) (pe_meth0 (pv 0) T.cl mN GN hr4 bN .nil (passes_call (takes_of rfl rfl rfl rfl) fun _ _ _ _ z => z)))
        (pss_cons (ps_expr (pe_meth (pv 0) T.cl mE GE hr4 bE .nil (passes_call (takes_of rfl rfl rfl rfl) fun _ _ _ _ z => z) (pa_cons pe_str pa_nil)))
        (pss_cons (ps_set (i := 4) scStep.nd rfl (.inl rfl) (pe_meth0 (pv 0) T.cl mU GU hr5 bU .nil (passes_call (takes_of rfl rfl rfl rfl) fun _ _ _ _ z => z)))
        (pss_cons (ps_expr (pe_meth (pv 0) T.cl mE GE hr4 bE .nil (passes_call (takes_of rfl rfl rfl rfl) fun _ _ _ _ z => z) (pa_cons pe_str pa_nil)))
        (pss_one (ps_ret (pe_tup (pa_cons (pv 1) (pa_cons (pv 2) (pa_cons (pv 3) (pa_cons (pv 4) (pa_cons (pe_meth (pv 0) T.cl mR GR hr bR .nil (passes_call (takes_of rfl rfl rfl rfl) fun _ _ _ _ z => z) (pa_cons pe_int pa_nil)) pa_nil)))))))))))) pss_nil)
      (pss_cons (ps_set (i := 4) scStep.nd rfl (.inl rfl) (pe_meth0 (pv 0) T.cl mU GU hr5 bU .nil (passes_call (takes_of rfl rfl rfl rfl) fun _ _ _ _ z => z)))
      (pss_cons (ps_expr (pe_meth (pv 0) T.cl mE GE hr4 bE .nil (passes_call (takes_of rfl rfl rfl rfl) fun _ _ _ _ z => z) (pa_cons pe_str pa_nil)))
      (pss_cons (ps_set (i := 5) scStep.nd rfl (.inl rfl) (pe_meth0 (pv 0) T.cl mP GP hr8 bP .nil (passes_call (takes_of rfl rfl rfl rfl) fun _ _ _ _ z => z)))
      (pss_cons (ps_expr (pe_meth (pv 0) T.cl mE GE hr4 bE .nil (passes_call (takes_of rfl rfl rfl rfl) fun _ _ _ _ z => z) (pa_cons pe_str pa_nil)))
      (pss_one (ps_ret (pe_tup (pa_cons (pv 1) (pa_cons (pv 2) (pa_cons (pv 4) (pa_cons (pv 5) (pa_cons (pe_meth0 (pv 0) T.cl mN GN hr4 bN .nil (passes_call (takes_of rfl rfl rfl rfl) fun _ _ _ _ z => z)) pa_nil))))))))))))))))))), ?_⟩
    refine meth0 hs rfl (by decide +kernel) (by decide +kernel) ⟨p, x, l, rfl, hs, fun H1 y k1 s1 hy => ?_⟩
    refine ⟨.str y, rfl, by show 4 ≤ _; decide, fun t ht => ?_⟩
    have sm : Same H1 (upd H1 t (.tup [.str "set", .str "take", .str "put", .str "carry"])) := same_upd ht
    have s2 := s1.same sm
    have W2 := W.of (k1.trans (Kept.ofSame sm))
    refine ⟨t, _, rfl, .inr (SqT.of upd_same), rfl, by decide +kernel, _, rfl, ?_⟩
    have ew : inV (.str y) [V.str "set", V.str "take", V.str "put", V.str "carry"] = [txt "set", txt "take", txt "put", txt "carry"].contains (rWord l).1 := by
      rw [← hy, ← words4_cp]
      exact inV_cp y words4
    refine ite2 (fun e1 => ?_) (fun e1 => ?_)
    · have e1' : inV (.str y) [V.str "set", V.str "take", V.str "put", V.str "carry"] = false := by
        cases hb : inV (.str y) [V.str "set", V.str "take", V.str "put", V.str "carry"] with
        | false => rfl
        | true =>
          have : (!inV (.str y) [V.str "set", V.str "take", V.str "put", V.str "carry"]) = true := e1
          rw [hb] at this
          cases this
      rw [ew] at e1'
      exact meth0 s2 rfl (by decide +kernel) (by decide +kernel) ⟨p, x, _, rfl, s2, W2.no (rStep_word e1')⟩
    · have e1' : inV (.str y) [V.str "set", V.str "take", V.str "put", V.str "carry"] = true := by
        cases hb : inV (.str y) [V.str "set", V.str "take", V.str "put", V.str "carry"] with
        | true => rfl
        | false => exact absurd (show (!inV (.str y) [V.str "set", V.str "take", V.str "put", V.str "carry"]) = true by rw [hb]; rfl) e1
      rw [ew] at e1'
      unfold rStep at W2
      refine wExp s2 rfl cp_blank (by decide) W2 fun H3 l3 e3 k3 s3 W3 => ?_
      refine wRd s3 rfl (by decide +kernel) (by decide +kernel) W3 fun H4 v4 d4 l4 e4 k4 s4 r4 W4 => ?_
      refine wExp s4 rfl cp_blank (by decide) W4 fun H5 l5 e5 k5 s5 W5 => ?_
      have r5 := r4.keep (s4.tupK k5)
      have iw : (rWord l).1 ∈ [txt "set", txt "take", txt "put", txt "carry"] := List.contains_iff_mem.mp e1'
      generalize (rWord l).1 = wd at *
      have d1 : ¬ txt "take" = txt "set" := by decide +kernel
      have d2 : ¬ txt "put" = txt "set" := by decide +kernel
      have d3 : ¬ txt "put" = txt "take" := by decide +kernel
      have d4' : ¬ txt "carry" = txt "set" := by decide +kernel
      have d5 : ¬ txt "carry" = txt "take" := by decide +kernel
      have d6 : ¬ txt "carry" = txt "put" := by decide +kernel
      refine ⟨.str y, rfl, rfl, _, rfl, ?_⟩
      rw [dec_str, hy, cp_set]
      by_cases c1 : wd = txt "set"
      · subst c1
        rw [decide_eq_true rfl]
        rw [if_pos rfl, map_bind] at W5
        refine iteT ⟨.str y, rfl, v4, rfl, ?_⟩
        refine wRd s5 rfl (by decide +kernel) (by decide +kernel) W5 fun H6 v6 d6 l6 e6 k6 s6 r6 W6 => ?_
        refine ⟨by show 3 ≤ _; decide, fun t ht => ?_⟩
        have sm : Same H6 (upd H6 t (.tup [.str y, v4, v6])) := same_upd ht
        exact (W6.of (Kept.ofSame sm)).done (s6.same sm) (.tup upd_same (.cons (Rep.str' hy) (.cons ((r5.keep (s5.tupK k6)).keep (TupK.same sm)) (.cons (r6.keep (TupK.same sm)) .nil))))
      rw [decide_eq_false c1]
      rw [if_neg c1] at W5
      refine iteF ⟨.str y, rfl, rfl, _, rfl, ?_⟩
      rw [dec_str, hy, cp_take]
      by_cases c2 : wd = txt "take"
      · subst c2
        rw [decide_eq_true rfl]
        rw [if_pos rfl, map_bind] at W5
        refine iteT ⟨.str y, rfl, v4, rfl, ?_⟩
        refine wRd s5 rfl (by decide +kernel) (by decide +kernel) W5 fun H6 v6 n6 l6 e6 k6 s6 r6 W6 => ?_
        obtain rfl : v6 = .int (n6 : Int) := r6
        refine ⟨by show 3 ≤ _; decide, fun t ht => ?_⟩
        have sm : Same H6 (upd H6 t (.tup [.str y, v4, .int (n6 : Int)])) := same_upd ht
        exact (W6.of (Kept.ofSame sm)).done (s6.same sm) (.tup upd_same (.cons (Rep.str' hy) (.cons ((r5.keep (s5.tupK k6)).keep (TupK.same sm)) (.cons (.int _) .nil))))
      rw [decide_eq_false c2]
      rw [if_neg c2] at W5
      refine iteF ⟨.str y, rfl, rfl, _, rfl, ?_⟩
      rw [dec_str, hy, cp_put]
      by_cases c3 : wd = txt "put"
      · subst c3
        rw [decide_eq_true rfl]
        rw [if_pos rfl] at W5
        refine iteT ?_
        refine wRd s5 rfl (by decide +kernel) (by decide +kernel) W5 fun H6 v6 n6 l6 e6 k6 s6 r6 W6 => ?_
        obtain rfl : v6 = .int (n6 : Int) := r6
        refine wExp s6 rfl cp_blank (by decide) W6 fun H7 l7 e7 k7 s7 W7 => ?_
        refine wRd s7 rfl (by decide +kernel) (by decide +kernel) W7 fun H8 v8 n8 l8 e8 k8 s8 r8 W8 => ?_
        obtain rfl : v8 = .int (n8 : Int) := r8
        refine wExp s8 rfl cp_blank (by decide) W8 fun H9 l9 e9 k9 s9 W9 => ?_
        rw [map_bind] at W9
        refine ⟨.str y, rfl, v4, rfl, _, rfl, _, rfl, ?_⟩
        refine wRd1 s9 rfl (by decide +kernel) (by decide +kernel) W9 fun H10 v10 d10 l10 e10 k10 s10 r10 W10 => ?_
        refine ⟨by show 5 ≤ _; decide, fun t ht => ?_⟩
        have sm : Same H10 (upd H10 t (.tup [.str y, v4, .int (n6 : Int), .int (n8 : Int), v10])) := same_upd ht
        have rp := ((((r5.keep (s5.tupK k6)).keep (s6.tupK k7)).keep (s7.tupK k8)).keep (s8.tupK k9)).keep (s9.tupK k10)
        exact (W10.of (Kept.ofSame sm)).done (s10.same sm) (.tup upd_same (.cons (Rep.str' hy) (.cons (rp.keep (TupK.same sm)) (.cons (.int _) (.cons (.int _) (.cons (Rep.keep (TupK.same sm) r10) .nil))))))
      rw [decide_eq_false c3]
      rw [if_neg c3] at W5
      have c4 : wd = txt "carry" := by
        simp only [List.mem_cons, List.not_mem_nil, or_false] at iw
        rcases iw with h | h | h | h
        · exact absurd h c1
        · exact absurd h c2
        · exact absurd h c3
        · exact h
      subst c4
      rw [if_pos rfl] at W5
      refine iteF ?_
      refine wRd s5 rfl (by decide +kernel) (by decide +kernel) W5 fun H6 v6 n6 l6 e6 k6 s6 r6 W6 => ?_
      obtain rfl : v6 = .int (n6 : Int) := r6
      refine wExp s6 rfl cp_blank (by decide) W6 fun H7 l7 e7 k7 s7 W7 => ?_
      refine wRd s7 rfl (by decide +kernel) (by decide +kernel) W7 fun H8 v8 d8 l8 e8 k8 s8 r8 W8 => ?_
      refine wExp s8 rfl cp_blank (by decide) W8 fun H9 l9 e9 k9 s9 W9 => ?_
      rw [map_bind] at W9
      refine ⟨.str y, rfl, v4, rfl, _, rfl, v8, rfl, ?_⟩
      refine wRd s9 rfl (by decide +kernel) (by decide +kernel) W9 fun H10 v10 n10 l10 e10 k10 s10 r10 W10 => ?_
      obtain rfl : v10 = .int (n10 : Int) := r10
      refine ⟨by show 5 ≤ _; decide, fun t ht => ?_⟩
      have sm : Same H10 (upd H10 t (.tup [.str y, v4, .int (n6 : Int), v8, .int (n10 : Int)])) := same_upd ht
      have rp := ((((r5.keep (s5.tupK k6)).keep (s6.tupK k7)).keep (s7.tupK k8)).keep (s8.tupK k9)).keep (s9.tupK k10)
      have ro := (r8.keep (s8.tupK k9)).keep (s9.tupK k10)
      exact (W10.of (Kept.ofSame sm)).done (s10.same sm) (.tup upd_same (.cons (Rep.str' hy) (.cons (rp.keep (TupK.same sm)) (.cons (.int _) (.cons (ro.keep (TupK.same sm)) (.cons (.int _) .nil))))))
end
end K9

set_option maxHeartbeats 2000000
/-! The readers of edits; read_edit. -/
namespace K9
open PySem PySem.Spec PyProof.Rows L2 K2

structure Names2 (mg : Str → Option Value) : Prop where
  non : ∃ t, mg "NONE" = some (.str "-" t)
  par : ∃ t, mg "PARTED" = some (.str "; " t)
  tup : mg "tuple" = none
  set : mg "set" = none
theorem cp_par : cp (Str.ofString "; ") = [59, 32] := by decide +kernel

def rTE (l : List Nat) : R (List D) := match acc [45] l with
  | some r1 => some ([], r1)
  | none => (rStep l).bind fun x => (rEMore x.2.length x.2).map fun y => (x.1 :: y.1, y.2)
theorem rStep_less : Less rStep := fun l d l' h => by
  rw [(rStep_some h).1, List.length_append]
  omega
theorem rEMore_end {n : Nat} {l : List Nat} (h : acc [59, 32] l = none) : rEMore n l = some ([], l) := by
  cases n with
  | zero => rfl
  | succ n =>
    unfold rEMore
    rw [h]
theorem rEdit_TE (l : List Nat) : rEdit l = (rTE l).bind fun y => if y.2 = [] then some y.1 else none := by
  unfold rEdit rTE
  cases acc [45] l with
  | some r1 => rfl
  | none =>
    show (rStep l).bind _ = ((rStep l).bind _).bind _
    cases rStep l with
    | none => rfl
    | some x =>
      show (rEMore x.2.length x.2).bind _ = ((rEMore x.2.length x.2).map _).bind _
      cases rEMore x.2.length x.2 with
      | none => rfl
      | some y => rfl

theorem scEdit : FnScope ["scanner", "steps"] ["scanner"] (defScope sTakeE) := ⟨rfl, rfl, rfl, by decide +kernel, rfl, by decide +kernel, by decide +kernel⟩
theorem scReadE : FnScope ["text", "scanner", "edit"] ["text"] (defScope sReadE) := ⟨rfl, rfl, rfl, by decide +kernel, rfl, by decide +kernel, by decide +kernel⟩

section
variable {P : Program} {w : World} {K : PySem.W.Frag} {mg : Str → Option Value} {base : Heap} {C CB fB : Addr}
theorem ok_takeE {f fA fS : Addr} {fd fdA fdS : FuncData} (F : Fun K "take_edit" "take_edit" sTakeE f fd) (T : Txt K mg C CB fB) (N : Names2 mg)
    (bA : Binds K fdA ["self", "sign"] []) (GA : FnOk P w K mg base CX0 2 fA fdA ["self", "sign"] (spAcc C)) (mA : Meth K C "accepts" fA)
    (kS : PySem.W.keepIn K (.ref fS) = true) (bS : Binds K fdS ["scanner"] []) (gS : mg "take_step" = some (.ref fS)) (GS : FnOk P w K mg base (CX P w) 127 fS fdS ["scanner"] (spFn C CB rStep Rep)) :
    FnOk P w K mg base (CX P w) 128 f fd ["scanner"] (spFn C CB rTE repL) := by
  obtain ⟨tn, gn⟩ := N.non
  obtain ⟨tp, gp⟩ := N.par
  refine F.okX scEdit (fun vs H Q E h => ?_) (fun cdv A outer s H vs Q E hr h => ?_)
  · obtain ⟨p, x, l, rfl, _⟩ := h
    rfl
  · obtain ⟨p, x, l, rfl, hs, W⟩ := h
    have hr2 := hr.mono (show 2 ≤ 127 by decide)
    refine ⟨_, pss_cons (ps_if (pt_val (pe_meth (pv 0) T.cl mA GA hr2 bA .nil pass0 (pa_cons (pe_glob (v := .str "-") rfl gn ⟨_, rfl⟩) pa_nil))) (pss_one (ps_ret (pe_tup pa_nil))) pss_nil)
      (pss_cons (ps_set (i := 1) scEdit.nd rfl (.inl rfl) (pe_lst (pa_cons (pe_call GS hr (by rfl) gS kS bS .nil (passes_call (takes_of rfl rfl rfl rfl) fun _ _ _ _ z => z) (pa_cons (pv 0) pa_nil)) pa_nil)))
      (pss_cons (ps_while PassesOwn.leaving (pt_val (pe_meth (pv 0) T.cl mA GA hr2 bA .nil pass0 (pa_cons (pe_glob (v := .str "; ") rfl gp ⟨_, rfl⟩) pa_nil)))
        (pss_one (ps_expr (pe_bm PySem.F.plainAttrs_list PySem.F.slot_list_append PySem.F.type_list_append mt_append (pv 1)
          (pa_cons (pe_call GS hr (by rfl) gS kS bS .nil (passes_call (takes_of rfl rfl rfl rfl) fun _ _ _ _ z => z) (pa_cons (pv 0) pa_nil)) pa_nil)))))
      (pss_one (ps_ret (pe_callTy call_tuple_of (by rfl) N.tup (by decide +kernel) (pa_cons (pv 1) pa_nil)))))), ?_⟩
    obtain ⟨dx, a, hp, ps⟩ := id hs
    have pl := ps.len
    have psm := ps.sm
    unfold rTE at W
    refine ⟨.ref p, rfl, p, dx, _, rfl, hp, flds_no _ _ (by decide +kernel) (by decide +kernel), p, x, l, _, rfl, hs, by decide +kernel, fun H1 l1 e1 k1 s1 => ⟨_, rfl, iteT ?_⟩, fun e1 => ⟨_, rfl, iteF ?_⟩⟩
    · rw [cp_dash] at e1
      rw [e1] at W
      refine ⟨by show 0 ≤ _; decide, fun t ht => ?_⟩
      have sm : Same H1 (upd H1 t (.tup [])) := same_upd ht
      exact (W.of (k1.trans (Kept.ofSame sm))).done (s1.same sm) (.tup upd_same .nil)
    · rw [cp_dash] at e1
      rw [e1] at W
      have W : Wish C CB p x repL Q E H ((rStep l).bind fun x => (rEMore x.2.length x.2).map fun y => (x.1 :: y.1, y.2)) := W
      refine ⟨_, rfl, p, x, l, rfl, hs, fun H1 v1 d1 l1 e1 k1 s1 r1 => ?_, fun e => W.no (by rw [e]; rfl)⟩
      rw [e1] at W
      have W1 : Wish C CB p x repL Q E H1 ((rEMore l1.length l1).map fun y => (d1 :: y.1, y.2)) := W.of k1
      have ll := rStep_less _ _ _ e1
      refine ⟨by show 1 ≤ _; decide, fun b hb => ?_⟩
      have sm1 : Same H1 (upd H1 b (.lst [v1])) := same_upd hb
      refine ⟨fun m σ H' => ∃ (l' : List Nat) (vs : List V) (ds : List D) (n : Nat), m = l'.length ∧ σ = [some (.ref p), some (.ref b)] ∧ Kept p H1 H' ∧ Sc C H' p x l' ∧ H' b = some (.lst vs) ∧ RepL H' vs ds ∧ vs.length + l'.length ≤ l.length + 1 ∧ l'.length ≤ n ∧
        ((rEMore l1.length l1).map fun y => (d1 :: y.1, y.2)) = (rEMore n l').map fun y => (ds ++ y.1, y.2),
        ⟨_, l1, [v1], [d1], l1.length, rfl, rfl, Kept.ofSame sm1, s1.same sm1, upd_same, (RepL.cons r1 .nil).keep (TupK.same sm1), by simp; omega, Nat.le_refl _, rfl⟩, ?_⟩
      rintro m σ H' ⟨l', vs, ds, n, rfl, rfl, k', s', hb', r', hn, hf, er⟩
      obtain ⟨dx', a', hp', ps'⟩ := id s'
      rw [er] at W1
      have W' := W1.of k'
      have nb : b ≠ p := by
        rintro rfl
        rw [hb'] at hp'
        cases hp'
      refine ⟨.ref p, rfl, p, dx', _, rfl, hp', flds_no _ _ (by decide +kernel) (by decide +kernel), p, x, l', _, rfl, s', by decide +kernel, fun H2 l2 e2 k2 s2 => ⟨_, rfl, iteT ?_⟩, fun e2 => ⟨_, rfl, iteF ?_⟩⟩
      · rw [cp_par] at e2
        have len2 := acc_len e2
        simp only [List.length_cons, List.length_nil] at len2
        obtain ⟨n', rfl⟩ : ∃ n', n = n' + 1 := ⟨n - 1, by omega⟩
        rw [rEMore, e2] at er W'
        refine ⟨fun σ' H' => ∃ m', m' < l'.length ∧ ∃ (l' : List Nat) (vs : List V) (ds : List D) (n : Nat), m' = l'.length ∧ σ' = [some (.ref p), some (.ref b)] ∧ Kept p H1 H' ∧ Sc C H' p x l' ∧ H' b = some (.lst vs) ∧ RepL H' vs ds ∧ vs.length + l'.length ≤ l.length + 1 ∧ l'.length ≤ n ∧
          ((rEMore l1.length l1).map fun y => (d1 :: y.1, y.2)) = (rEMore n l').map fun y => (ds ++ y.1, y.2), fun _ _ w => w, ?_⟩
        have hb2 : H2 b = some (.lst vs) := k2 _ _ hb' nb
        refine ⟨.ref b, rfl, .inl ⟨rfl, _, SqL.of hb2⟩, _, rfl, p, x, l2, rfl, s2, fun H3 v3 d3 l3 e3 k3 s3 r3 => ?_, fun e => (W'.of k2).no ?_⟩
        · have hb3 : H3 b = some (.lst vs) := k3 _ _ hb2 nb
          have l3l := rStep_less _ _ _ e3
          have vl : vs.length < sizeLine := Nat.lt_of_le_of_lt (show vs.length ≤ most + 1 by omega) (by decide)
          refine ⟨b, vs, v3, rfl, rfl, hb3, vl, ?_⟩
          refine ⟨_, ?_, l3, vs ++ [v3], ds ++ [d3], n', rfl, rfl, (Kept.new ((k'.trans k2).trans k3) hb), s3.upd nb, upd_same, ?_, ?_, by omega, ?_⟩
          · omega
          · have r4 := (r'.keep (s'.tupK k2)).keep (s2.tupK k3)
            exact (r4.snoc r3).keep (TupK.lst hb3)
          · rw [List.length_append, List.length_singleton]
            omega
          · rw [er]
            show (((rStep l2).bind _).map _) = _
            rw [e3]
            show (((rEMore n' l3).map _).map _) = _
            rw [Option.map_map]
            refine congrArg (fun g => Option.map g (rEMore n' l3)) (funext fun y => ?_)
            show (ds ++ d3 :: y.1, y.2) = _
            rw [List.append_assoc]
            rfl
        · show (((rStep l2).bind _).map _) = none
          rw [e]
          rfl
      · rw [cp_par] at e2
        rw [rEMore_end e2] at W'
        refine ⟨.ref b, rfl, b, vs, rfl, .inl ⟨SqL.of hb', fun t ht => ?_⟩⟩
        have sm2 : Same H' (upd H' t (.tup vs)) := same_upd ht
        have W'' : Wish C CB p x repL Q E H' (some (ds ++ [], l')) := W'
        rw [List.append_nil] at W''
        exact (W''.of (Kept.ofSame sm2)).done (s'.same sm2) (.tup upd_same (r'.keep (TupK.same sm2)))

/-- read_edit, read_plan of any value -/
def spRead (K : PySem.W.Frag) (CB : Addr) (rd : List Nat → Option (List D)) : Sp := fun vs H Q E =>
  (∃ x : Str, vs = [.str x] ∧ (cp x).length ≤ most ∧ (∀ H' v ds, rd (cp x) = some ds → Same H H' → Rep H' v (.tup ds) → Q v H') ∧
    (rd (cp x) = none → ∀ d H', Same H H' → H' d = some (.xd [("value", V.str x)]) → E (.ref CB) (some d) H')) ∨
  (∃ (v : V) (T : String), vs = [v] ∧ TyX K H v (.type T) ∧ kitB T "str" = some false ∧ ∀ d H', Same H H' → H' d = some (.xd [("value", v)]) → E (.ref CB) (some d) H')
theorem bad_made {v : V} {H : Hp} {E : XK} {σ : L2.St} {ta : TA} (hta : ∀ q : List V → Hp → Prop, q [v] H → ta σ H q) (e : ∀ d H', Same H H' → H' d = some (.xd [("value", v)]) → E (.ref CB) (some d) H') :
    tMkO CB (spBadI CB) [] ta σ H (fun cls d H' => E cls d H') := by
  refine hta _ ⟨(by show 1 ≤ 1000; decide), fun b hb => ?_⟩
  refine ⟨b, v, rfl, upd_same, fun d hd db => ⟨rfl, d, [("value", v)], upd_same, ?_, ?_, ?_⟩⟩
  · rw [upd_ne db, upd_same]
  · rw [upd_ne db] at hd
    exact hd
  · rw [upd_ne db] at hd
    refine e d _ (fun c o hc => ?_) upd_same
    have nb : c ≠ b := ne_of_none hc hb
    have nd : c ≠ d := ne_of_none hc hd
    rw [upd_ne nd]
    show (if c = b then none else _) = _
    rw [if_neg nb, upd_ne nb, upd_ne nd, upd_ne nb]
    exact hc
theorem ok_readE {f fI fT fX : Addr} {fd fdI fdT fdX : FuncData} (F : Fun K "read_edit" "read_edit" sReadE f fd) (T : Txt K mg C CB fB) (Z : Bare mg)
    (M : Mk K C fI) (bI : Binds K fdI ["self", "whole"] []) (GI : FnOk P w K mg base CX0 1 fI fdI ["self", "whole"] (spInit C))
    (kT : PySem.W.keepIn K (.ref fT) = true) (bT : Binds K fdT ["scanner"] []) (gT : mg "take_edit" = some (.ref fT)) (GT : FnOk P w K mg base (CX P w) 128 fT fdT ["scanner"] (spFn C CB rTE repL))
    (bX : Binds K fdX ["self"] []) (GX : FnOk P w K mg base (CX P w) 4 fX fdX ["self"] (spEndS C CB)) (mX : Meth K C "expect_end" fX)
    {FB : FuncData} (FBo : Fun K "__init__" "BadText.__init__" sBadInit fB FB) (bB : Binds K FB ["self", "value"] []) :
    FnOk P w K mg base (CX P w) 129 f fd ["text"] (spRead K CB rEdit) := by
  have GB : FnOk P w K mg base CX0 1 fB FB ["self", "value"] (spBadI CB) := ok_badI FBo T
  refine F.okX scReadE (fun vs H Q E h => ?_) (fun cdv A outer s H vs Q E hr h => ?_)
  · rcases h with ⟨x, rfl, _⟩ | ⟨v, T, rfl, _⟩ <;> rfl
  · have hr2 := hr.mono (show 2 ≤ 128 by decide)
    have hr4 := hr.mono (show 4 ≤ 128 by decide)
    refine ⟨_, pss_cons (ps_if (pt_not (pt_val (pe_callB call_isi (by rfl) Z.isin (by decide +kernel)
          (pa_cons (pv 0) (pa_cons (pe_bltn (v := .ty "str") (by rfl) Z.str (by decide +kernel) rfl) pa_nil)))))
        (pss_one (ps_raise rfl (takes_of rfl rfl rfl rfl) (pmk_oex T.ox T.iB T.tB GB hr2 bB .nil pass0 rfl T.gB (pa_cons (pv 0) pa_nil)))) pss_nil)
      (pss_cons (ps_set (i := 1) scReadE.nd rfl (.inl rfl) (pe_make M GI hr2 (by rfl) T.gC bI .nil pass0 (pa_cons (pv 0) pa_nil)))
      (pss_cons (ps_set (i := 2) scReadE.nd rfl (.inl rfl) (pe_call GT hr (by rfl) gT kT bT .nil (passes_call (takes_of rfl rfl rfl rfl) fun _ _ _ _ z => z) (pa_cons (pv 1) pa_nil)))
      (pss_cons (ps_expr (pe_meth0 (pv 1) T.cl mX GX hr4 bX .nil (passes_call (takes_of rfl rfl rfl rfl) fun _ _ _ _ z => z)))
      (pss_one (ps_ret (pv 2)))))), ?_⟩
    rcases h with ⟨x, rfl, hm, q1, q2⟩ | ⟨v, Ty, rfl, ty, kt, q⟩
    rotate_left
    · refine ⟨v, rfl, v, .ty "str", _, .type "str", false, rfl, .ty "str", ty, kit_ty kt, _, rfl, iteT ?_⟩
      exact bad_made (fun q h => ⟨v, rfl, h⟩) q
    refine ⟨.str x, rfl, .str x, .ty "str", .type "str", .type "str", true, rfl, .ty "str", .base (.str x), kit_ty (by decide +kernel), _, rfl, iteF ?_⟩
    refine ⟨.str x, rfl, fun p dx np ndx ne => ?_⟩
    have sm0 : Same H (upd (upd H dx (.own p)) p (.ins C dx [])) := fun b o e => by
      rw [upd_ne (ne_of_none e np), upd_ne (ne_of_none e ndx)]
      exact e
    have up : ∀ {H'}, Kept p (upd (upd H dx (.own p)) p (.ins C dx [])) H' → Same H H' := fun k b o e => k b o (sm0 b o e) (ne_of_none e np)
    refine ⟨p, dx, x, rfl, upd_same, hm, fun H1 k1 s1 => ⟨rfl, ?_⟩⟩
    rw [rEdit_TE] at q1 q2
    refine ⟨_, rfl, p, x, _, rfl, s1, fun H2 v2 d2 l2 e2 k2 s2 r2 => ?_, fun e2 => fun d H' k hd => q2 (by rw [e2]; rfl) d H' (up (k1.trans k)) hd⟩
    rw [e2] at q1 q2
    obtain ⟨dx2, a2, hp2, _⟩ := id s2
    refine ⟨.ref p, rfl, p, dx2, _, rfl, hp2, flds_no _ _ (by decide +kernel) (by decide +kernel), p, x, l2, rfl, s2, fun z => ⟨_, rfl, ?_⟩, fun z => fun d H' k hd => q2 ?_ d H' (up ((k1.trans k2).trans k)) hd⟩
    · exact q1 H2 v2 d2 (by show (if l2 = [] then _ else _) = _; rw [if_pos z]) (up (k1.trans k2)) r2
    · show (if l2 = [] then _ else _) = _
      rw [if_neg z]
end
end K9

set_option maxHeartbeats 2000000
/-! The readers of serials, deeds. -/
namespace K9
open PySem PySem.Spec PyProof.Rows L2 K2

theorem cp_hash2 : cp (Str.ofString " #") = [32, 35] := by decide +kernel
theorem rSMore_end {n : Nat} {l : List Nat} (h : (acc [32, 35] l).isSome = false) : rSMore n l = some ([], l) := by
  cases n with
  | zero => rfl
  | succ n =>
    unfold rSMore
    rw [h]
    rfl
theorem rDeed_less : Less rDeed := fun l d l' h => by
  rw [(rDeed_some h).1, List.length_append]
  omega
theorem acc_two {l : List Nat} (h : (acc [32, 35] l).isSome = true) : (acc [32] l).isSome = true := by
  obtain ⟨r, hr⟩ := Option.isSome_iff_exists.mp h
  rw [acc_some hr]
  rfl

theorem scSers : FnScope ["scanner", "serials"] ["scanner"] (defScope sTakeS) := ⟨rfl, rfl, rfl, by decide +kernel, rfl, by decide +kernel, by decide +kernel⟩
theorem scDeed : FnScope ["scanner", "word", "file", "name", "spot"] ["scanner"] (defScope sTakeD) := ⟨rfl, rfl, rfl, by decide +kernel, rfl, by decide +kernel, by decide +kernel⟩

section
variable {P : Program} {w : World} {K : PySem.W.Frag} {mg : Str → Option Value} {base : Heap} {C CB fB : Addr}
theorem ok_takeS {f fA fH fE fS : Addr} {fd fdA fdH fdE fdS : FuncData} (F : Fun K "take_serials" "take_serials" sTakeS f fd) (T : Txt K mg C CB fB) (N : Names2 mg)
    (bA : Binds K fdA ["self", "sign"] []) (GA : FnOk P w K mg base CX0 2 fA fdA ["self", "sign"] (spAcc C)) (mA : Meth K C "accepts" fA)
    (bH : Binds K fdH ["self", "sign"] []) (GH : FnOk P w K mg base CX0 1 fH fdH ["self", "sign"] (spSees C)) (mH : Meth K C "sees" fH)
    (bE : Binds K fdE ["self", "sign"] []) (GE : FnOk P w K mg base (CX P w) 4 fE fdE ["self", "sign"] (spExp C CB)) (mE : Meth K C "expect" fE)
    (bS : Binds K fdS ["self"] []) (GS : FnOk P w K mg base (CX P w) 5 fS fdS ["self"] (spRd C CB rSer repN [])) (mS : Meth K C "take_serial" fS) :
    FnOk P w K mg base (CX P w) 6 f fd ["scanner"] (spFn C CB rSers repL) := by
  obtain ⟨tn, gn⟩ := N.non
  refine F.okX scSers (fun vs H Q E h => ?_) (fun cdv A outer s H vs Q E hr h => ?_)
  · obtain ⟨p, x, l, rfl, _⟩ := h
    rfl
  · obtain ⟨p, x, l, rfl, hs, W⟩ := h
    have hr1 := hr.mono (show 1 ≤ 5 by decide)
    have hr2 := hr.mono (show 2 ≤ 5 by decide)
    have hr4 := hr.mono (show 4 ≤ 5 by decide)
    refine ⟨_, pss_cons (ps_if (pt_val (pe_meth (pv 0) T.cl mA GA hr2 bA .nil pass0 (pa_cons (pe_glob (v := .str "-") rfl gn ⟨_, rfl⟩) pa_nil))) (pss_one (ps_ret (pe_tup pa_nil))) pss_nil)
      (pss_cons (ps_set (i := 1) scSers.nd rfl (.inl rfl) (pe_lst (pa_cons (pe_meth0 (pv 0) T.cl mS GS hr bS .nil (passes_call (takes_of rfl rfl rfl rfl) fun _ _ _ _ z => z)) pa_nil)))
      (pss_cons (ps_while PassesOwn.leaving (pt_val (pe_meth (pv 0) T.cl mH GH hr1 bH .nil pass0 (pa_cons pe_str pa_nil)))
        (pss_cons (ps_expr (pe_meth (pv 0) T.cl mE GE hr4 bE .nil (passes_call (takes_of rfl rfl rfl rfl) fun _ _ _ _ z => z) (pa_cons pe_str pa_nil)))
        (pss_one (ps_expr (pe_bm PySem.F.plainAttrs_list PySem.F.slot_list_append PySem.F.type_list_append mt_append (pv 1)
          (pa_cons (pe_meth0 (pv 0) T.cl mS GS hr bS .nil (passes_call (takes_of rfl rfl rfl rfl) fun _ _ _ _ z => z)) pa_nil))))))
      (pss_one (ps_ret (pe_callTy call_tuple_of (by rfl) N.tup (by decide +kernel) (pa_cons (pv 1) pa_nil)))))), ?_⟩
    obtain ⟨dx, a, hp, ps⟩ := id hs
    have pl := ps.len
    have psm := ps.sm
    unfold rSers at W
    refine ⟨.ref p, rfl, p, dx, _, rfl, hp, flds_no _ _ (by decide +kernel) (by decide +kernel), p, x, l, _, rfl, hs, by decide +kernel, fun H1 l1 e1 k1 s1 => ⟨_, rfl, iteT ?_⟩, fun e1 => ⟨_, rfl, iteF ?_⟩⟩
    · rw [cp_dash] at e1
      rw [e1] at W
      refine ⟨by show 0 ≤ _; decide, fun t ht => ?_⟩
      have sm : Same H1 (upd H1 t (.tup [])) := same_upd ht
      exact (W.of (k1.trans (Kept.ofSame sm))).done (s1.same sm) (.tup upd_same .nil)
    · rw [cp_dash] at e1
      rw [e1] at W
      have W : Wish C CB p x repL Q E H ((rSer l).bind fun x => (rSMore x.2.length x.2).map fun y => (.int (x.1 : Int) :: y.1, y.2)) := W
      refine wRd hs rfl (by decide +kernel) (by decide +kernel) W fun H1 v1 n1 l1 e1 k1 s1 r1 W1 => ?_
      obtain rfl : v1 = .int (n1 : Int) := r1
      have W1 : Wish C CB p x repL Q E H1 ((rSMore l1.length l1).map fun y => (D.int (n1 : Int) :: y.1, y.2)) := W1
      have ll := rSer_less _ _ _ e1
      refine ⟨by show 1 ≤ _; decide, fun b hb => ?_⟩
      have sm1 : Same H1 (upd H1 b (.lst [.int (n1 : Int)])) := same_upd hb
      refine ⟨fun m σ H' => ∃ (l' : List Nat) (vs : List V) (ds : List D) (n : Nat), m = l'.length ∧ σ = [some (.ref p), some (.ref b)] ∧ Kept p H1 H' ∧ Sc C H' p x l' ∧ H' b = some (.lst vs) ∧ RepL H' vs ds ∧ vs.length + l'.length ≤ l.length + 1 ∧ l'.length ≤ n ∧
        ((rSMore l1.length l1).map fun y => (D.int (n1 : Int) :: y.1, y.2)) = (rSMore n l').map fun y => (ds ++ y.1, y.2),
        ⟨_, l1, [.int (n1 : Int)], [.int (n1 : Int)], l1.length, rfl, rfl, Kept.ofSame sm1, s1.same sm1, upd_same, .cons (.int _) .nil, by simp; omega, Nat.le_refl _, rfl⟩, ?_⟩
      rintro m σ H' ⟨l', vs, ds, n, rfl, rfl, k', s', hb', r', hn, hf, er⟩
      obtain ⟨dx', a', hp', ps'⟩ := id s'
      rw [er] at W1
      have W' := W1.of k'
      have nb : b ≠ p := by
        rintro rfl
        rw [hb'] at hp'
        cases hp'
      refine ⟨.ref p, rfl, p, dx', _, rfl, hp', flds_no _ _ (by decide +kernel) (by decide +kernel), p, x, l', _, rfl, s', by decide +kernel, _, rfl, ?_⟩
      rw [cp_hash2]
      cases e2 : (acc [32, 35] l').isSome with
      | true =>
        obtain ⟨l2, e3⟩ := Option.isSome_iff_exists.mp (acc_two e2)
        have len2 := acc_len e3
        simp only [List.length_cons, List.length_nil] at len2
        obtain ⟨n', rfl⟩ : ∃ n', n = n' + 1 := ⟨n - 1, by omega⟩
        rw [rSMore, e2, if_pos rfl] at er W'
        have W' : Wish C CB p x repL Q E H' ((acc [32] l').bind fun r1 => ((rSer r1).bind fun x => (rSMore n' x.2).map fun y => (D.int (x.1 : Int) :: y.1, y.2)).map fun y => (ds ++ y.1, y.2)) := by
          rw [e3] at W' ⊢
          exact W'
        refine iteT ⟨fun σ' H' => ∃ m', m' < l'.length ∧ ∃ (l' : List Nat) (vs : List V) (ds : List D) (n : Nat), m' = l'.length ∧ σ' = [some (.ref p), some (.ref b)] ∧ Kept p H1 H' ∧ Sc C H' p x l' ∧ H' b = some (.lst vs) ∧ RepL H' vs ds ∧ vs.length + l'.length ≤ l.length + 1 ∧ l'.length ≤ n ∧
          ((rSMore l1.length l1).map fun y => (D.int (n1 : Int) :: y.1, y.2)) = (rSMore n l').map fun y => (ds ++ y.1, y.2), fun _ _ w => w, ?_⟩
        refine wExp s' rfl cp_blank (by decide) W' fun H2 l2' e2' k2 s2 W2 => ?_
        obtain rfl : l2 = l2' := Option.some.inj (e3.symm.trans e2')
        have hb2 : H2 b = some (.lst vs) := k2 _ _ hb' nb
        have W2 : Wish C CB p x repL Q E H2 ((rSer l2).bind fun x => ((rSMore n' x.2).map fun y => (D.int (x.1 : Int) :: y.1, y.2)).map fun y => (ds ++ y.1, y.2)) := by
          cases es : rSer l2 with
          | none => rw [es] at W2; exact W2
          | some x => rw [es] at W2; exact W2
        refine ⟨.ref b, rfl, .inl ⟨rfl, _, SqL.of hb2⟩, ?_⟩
        refine wRd s2 rfl (by decide +kernel) (by decide +kernel) W2 fun H3 v3 n3 l3 e4 k3 s3 r3 W3 => ?_
        obtain rfl : v3 = .int (n3 : Int) := r3
        have hb3 : H3 b = some (.lst vs) := k3 _ _ hb2 nb
        have l3l := rSer_less _ _ _ e4
        have vl : vs.length < sizeLine := Nat.lt_of_le_of_lt (show vs.length ≤ most + 1 by omega) (by decide)
        refine ⟨b, vs, _, rfl, rfl, hb3, vl, ?_⟩
        refine ⟨_, ?_, l3, vs ++ [.int (n3 : Int)], ds ++ [.int (n3 : Int)], n', rfl, rfl, (Kept.new ((k'.trans k2).trans k3) hb), s3.upd nb, upd_same, ?_, ?_, by omega, ?_⟩
        · omega
        · have r4 := (r'.keep (s'.tupK k2)).keep (s2.tupK k3)
          exact (r4.snoc (.int _)).keep (TupK.lst hb3)
        · rw [List.length_append, List.length_singleton]
          omega
        · rw [er, e3]
          show (((rSer l2).bind _).map _) = _
          rw [e4]
          show (((rSMore n' l3).map _).map _) = _
          rw [Option.map_map]
          refine congrArg (fun g => Option.map g (rSMore n' l3)) (funext fun y => ?_)
          show (ds ++ D.int (n3 : Int) :: y.1, y.2) = _
          rw [List.append_assoc]
          rfl
      | false =>
        rw [rSMore_end e2] at W'
        refine iteF ⟨.ref b, rfl, b, vs, rfl, .inl ⟨SqL.of hb', fun t ht => ?_⟩⟩
        have sm2 : Same H' (upd H' t (.tup vs)) := same_upd ht
        have W'' : Wish C CB p x repL Q E H' (some (ds ++ [], l')) := W'
        rw [List.append_nil] at W''
        exact (W''.of (Kept.ofSame sm2)).done (s'.same sm2) (.tup upd_same (r'.keep (TupK.same sm2)))

def words3 : List Str := ["set", "gone", "order"]
theorem words3_cp : words3.map cp = [txt "set", txt "gone", txt "order"] := by decide +kernel
theorem cp_gone : cp (Str.ofString "gone") = txt "gone" := by decide +kernel
theorem cp_order : cp (Str.ofString "order") = txt "order" := by decide +kernel
theorem rDeed_word {l : List Nat} (h : [txt "set", txt "gone", txt "order"].contains (rWord l).1 = false) : rDeed l = none := by
  have hn : ∀ y ∈ [txt "set", txt "gone", txt "order"], ¬ (rWord l).1 = y := fun y hy e => by
    rw [e, List.contains_iff_mem.mpr hy] at h
    cases h
  unfold rDeed
  cases acc [32] (rWord l).2 with
  | none => rfl
  | some r1 =>
    show (if _ then _ else _) = none
    rw [if_neg (hn _ (by simp)), if_neg (hn _ (by simp)), if_neg (hn _ (by simp))]

theorem ok_deed {f fW fF fE fN fP fL fS : Addr} {fd fdW fdF fdE fdN fdP fdL fdS : FuncData} (F : Fun K "take_deed" "take_deed" sTakeD f fd) (T : Txt K mg C CB fB)
    (bW : Binds K fdW ["self"] []) (GW : FnOk P w K mg base CX0 2 fW fdW ["self"] (spWord C)) (mW : Meth K C "take_word" fW)
    (bF : Binds K fdF ["self"] []) (GF : FnOk P w K mg base (CX P w) 3 fF fdF ["self"] (spRefuse C CB)) (mF : Meth K C "refuse" fF)
    (bE : Binds K fdE ["self", "sign"] []) (GE : FnOk P w K mg base (CX P w) 4 fE fdE ["self", "sign"] (spExp C CB)) (mE : Meth K C "expect" fE)
    (bN : Binds K fdN ["self"] []) (GN : FnOk P w K mg base (CX P w) 4 fN fdN ["self"] (spRd C CB rName repS [])) (mN : Meth K C "take_name" fN)
    (bP : Binds K fdP ["self"] []) (GP : FnOk P w K mg base (CX P w) 8 fP fdP ["self"] (spRd C CB rSpot Rep [])) (mP : Meth K C "take_spot" fP)
    (bL : Binds K fdL ["self"] []) (GL : FnOk P w K mg base (CX P w) 5 fL fdL ["self"] (spRd C CB rLit Rep [])) (mL : Meth K C "take_literal" fL)
    (kS : PySem.W.keepIn K (.ref fS) = true) (bS : Binds K fdS ["scanner"] []) (gS : mg "take_serials" = some (.ref fS)) (GS : FnOk P w K mg base (CX P w) 6 fS fdS ["scanner"] (spFn C CB rSers repL)) :
    FnOk P w K mg base (CX P w) 9 f fd ["scanner"] (spFn C CB rDeed Rep) := by
  refine F.okX scDeed (fun vs H Q E h => ?_) (fun cdv A outer s H vs Q E hr h => ?_)
  · obtain ⟨p, x, l, rfl, _⟩ := h
    rfl
  · obtain ⟨p, x, l, rfl, hs, W⟩ := h
    have hr2 := hr.mono (show 2 ≤ 8 by decide)
    have hr3 := hr.mono (show 3 ≤ 8 by decide)
    have hr4 := hr.mono (show 4 ≤ 8 by decide)
    have hr5 := hr.mono (show 5 ≤ 8 by decide)
    have hr6 := hr.mono (show 6 ≤ 8 by decide)
    refine ⟨_, (pss_cons (ps_set (i := 1) scDeed.nd rfl (.inl rfl) (pe_meth0 (pv 0) T.cl mW GW hr2 bW .nil pass0)) (pss_cons (ps_if (pt_cmpR op_notIn_seq (pv 1) (pe_tup (pa_cons pe_str (pa_cons pe_str (pa_cons pe_str pa_nil)))) (by with_unfolding_all rfl)) (pss_one (ps_expr (pe_meth0 (pv 0) T.cl mF GF hr3 bF .nil (passes_call (takes_of rfl rfl rfl rfl) fun _ _ _ _ z => z)))) pss_nil) (pss_cons (ps_expr (pe_meth (pv 0) T.cl mE GE hr4 bE .nil (passes_call (takes_of rfl rfl rfl rfl) fun _ _ _ _ z => z) (pa_cons pe_str pa_nil))) (pss_cons (ps_if (pt_cmpR op_eq (pv 1) pe_str (nomark _)) (pss_cons (ps_set (i := 2) scDeed.nd rfl (.inl rfl) (pe_meth0 (pv 0) T.cl mN GN hr4 bN .nil (passes_call (takes_of rfl rfl rfl rfl) fun _ _ _ _ z => z))) (pss_cons (ps_expr (pe_meth (pv 0) T.cl mE GE hr4 bE .nil (passes_call (takes_of rfl rfl rfl rfl) fun _ _ _ _ z => z) (pa_cons pe_str pa_nil))) (pss_cons (ps_set (i := 3) scDeed.nd rfl (.inl rfl) (pe_meth0 (pv 0) T.cl mN GN hr4 bN .nil (passes_call (takes_of rfl rfl rfl rfl) fun _ _ _ _ z => z))) (pss_cons (ps_expr (pe_meth (pv 0) T.cl mE GE hr4 bE .nil (passes_call (takes_of rfl rfl rfl rfl) fun _ _ _ _ z => z) (pa_cons pe_str pa_nil))) (pss_one (ps_ret (pe_tup (pa_cons (pv 1) (pa_cons (pv 2) (pa_cons (pv 3) (pa_cons (pe_call GS hr6 (by rfl) gS kS bS .nil (passes_call (takes_of rfl rfl rfl rfl) fun _ _ _ _ z => z) (pa_cons (pv 0) pa_nil)) pa_nil))))))))))) pss_nil) (pss_cons (ps_set (i := 4) scDeed.nd rfl (.inl rfl) (pe_meth0 (pv 0) T.cl mP GP hr bP .nil (passes_call (takes_of rfl rfl rfl rfl) fun _ _ _ _ z => z))) (pss_cons (ps_if (pt_cmpR op_eq (pv 1) pe_str (nomark _)) (pss_one (ps_ret (pe_tup (pa_cons (pv 1) (pa_cons (pv 4) pa_nil))))) pss_nil) (pss_cons (ps_expr (pe_meth (pv 0) T.cl mE GE hr4 bE .nil (passes_call (takes_of rfl rfl rfl rfl) fun _ _ _ _ z => z) (pa_cons pe_str pa_nil))) (pss_one (ps_ret (pe_tup (pa_cons (pv 1) (pa_cons (pv 4) (pa_cons (pe_meth0 (pv 0) T.cl mL GL hr5 bL .nil (passes_call (takes_of rfl rfl rfl rfl) fun _ _ _ _ z => z)) pa_nil))))))))))))), ?_⟩
    refine meth0 hs rfl (by decide +kernel) (by decide +kernel) ⟨p, x, l, rfl, hs, fun H1 y k1 s1 hy => ?_⟩
    refine ⟨.str y, rfl, by show 3 ≤ _; decide, fun t ht => ?_⟩
    have sm : Same H1 (upd H1 t (.tup [.str "set", .str "gone", .str "order"])) := same_upd ht
    have s2 := s1.same sm
    have W2 := W.of (k1.trans (Kept.ofSame sm))
    refine ⟨t, _, rfl, .inr (SqT.of upd_same), rfl, by decide +kernel, _, rfl, ?_⟩
    have ew : inV (.str y) [V.str "set", V.str "gone", V.str "order"] = [txt "set", txt "gone", txt "order"].contains (rWord l).1 := by
      rw [← hy, ← words3_cp]
      exact inV_cp y words3
    refine ite2 (fun e1 => ?_) (fun e1 => ?_)
    · have e1' : inV (.str y) [V.str "set", V.str "gone", V.str "order"] = false := by
        cases hb : inV (.str y) [V.str "set", V.str "gone", V.str "order"] with
        | false => rfl
        | true =>
          have : (!inV (.str y) [V.str "set", V.str "gone", V.str "order"]) = true := e1
          rw [hb] at this
          cases this
      rw [ew] at e1'
      exact meth0 s2 rfl (by decide +kernel) (by decide +kernel) ⟨p, x, _, rfl, s2, W2.no (rDeed_word e1')⟩
    · have e1' : inV (.str y) [V.str "set", V.str "gone", V.str "order"] = true := by
        cases hb : inV (.str y) [V.str "set", V.str "gone", V.str "order"] with
        | true => rfl
        | false => exact absurd (show (!inV (.str y) [V.str "set", V.str "gone", V.str "order"]) = true by rw [hb]; rfl) e1
      rw [ew] at e1'
      unfold rDeed at W2
      refine wExp s2 rfl cp_blank (by decide) W2 fun H3 l3 e3 k3 s3 W3 => ?_
      have iw : (rWord l).1 ∈ [txt "set", txt "gone", txt "order"] := List.contains_iff_mem.mp e1'
      generalize (rWord l).1 = wd at *
      refine ⟨.str y, rfl, rfl, _, rfl, ?_⟩
      rw [dec_str, hy, cp_order]
      by_cases c1 : wd = txt "order"
      · subst c1
        rw [decide_eq_true rfl]
        rw [if_pos rfl] at W3
        refine iteT ?_
        refine wRd s3 rfl (by decide +kernel) (by decide +kernel) W3 fun H4 v4 d4 l4 e4 k4 s4 r4 W4 => ?_
        obtain ⟨y4, rfl, hy4⟩ := r4
        refine wExp s4 rfl cp_slash (by decide) W4 fun H5 l5 e5 k5 s5 W5 => ?_
        refine wRd s5 rfl (by decide +kernel) (by decide +kernel) W5 fun H6 v6 d6 l6 e6 k6 s6 r6 W6 => ?_
        obtain ⟨y6, rfl, hy6⟩ := r6
        refine wExp s6 rfl cp_blank (by decide) W6 fun H7 l7 e7 k7 s7 W7 => ?_
        rw [map_bind] at W7
        refine ⟨.str y, rfl, _, rfl, _, rfl, _, rfl, p, x, l7, rfl, s7, ⟨fun H8 v8 d8 l8 e8 k8 s8 r8 => ?_, fun e8 => W7.no (by rw [e8]; rfl)⟩⟩
        rw [e8] at W7
        refine ⟨by show 4 ≤ _; decide, fun t ht => ?_⟩
        have sm : Same H8 (upd H8 t (.tup [.str y, .str y4, .str y6, v8])) := same_upd ht
        exact (W7.of (k8.trans (Kept.ofSame sm))).done (s8.same sm) (.tup upd_same (.cons (Rep.str' hy) (.cons (Rep.str' hy4) (.cons (Rep.str' hy6) (.cons (Rep.keep (TupK.same sm) r8) .nil)))))
      rw [decide_eq_false c1]
      rw [if_neg c1] at W3
      refine iteF ?_
      have c23 : wd = txt "gone" ∨ (wd ≠ txt "gone" ∧ wd = txt "set") := by
        have d1 : txt "set" ≠ txt "gone" := by decide +kernel
        simp only [List.mem_cons, List.not_mem_nil, or_false] at iw
        rcases iw with h | h | h
        · exact .inr ⟨by rw [h]; exact d1, h⟩
        · exact .inl h
        · exact absurd h c1
      rcases c23 with c2 | ⟨c2, c3⟩
      · subst c2
        rw [if_pos rfl, map_bind] at W3
        refine wRd s3 rfl (by decide +kernel) (by decide +kernel) W3 fun H4 v4 d4 l4 e4 k4 s4 r4 W4 => ?_
        refine ⟨.str y, rfl, rfl, _, rfl, ?_⟩
        rw [dec_str, hy, cp_gone, decide_eq_true rfl]
        refine iteT ⟨.str y, rfl, v4, rfl, by show 2 ≤ _; decide, fun t ht => ?_⟩
        have sm : Same H4 (upd H4 t (.tup [.str y, v4])) := same_upd ht
        exact (W4.of (Kept.ofSame sm)).done (s4.same sm) (.tup upd_same (.cons (Rep.str' hy) (.cons (r4.keep (TupK.same sm)) .nil)))
      · rw [if_neg c2] at W3
        subst c3
        rw [if_pos rfl] at W3
        refine wRd s3 rfl (by decide +kernel) (by decide +kernel) W3 fun H4 v4 d4 l4 e4 k4 s4 r4 W4 => ?_
        refine ⟨.str y, rfl, rfl, _, rfl, ?_⟩
        rw [dec_str, hy, cp_gone, decide_eq_false c2]
        refine iteF ?_
        refine wExp s4 rfl cp_blank (by decide) W4 fun H5 l5 e5 k5 s5 W5 => ?_
        rw [map_bind] at W5
        refine ⟨.str y, rfl, v4, rfl, ?_⟩
        refine wRd s5 rfl (by decide +kernel) (by decide +kernel) W5 fun H6 v6 d6 l6 e6 k6 s6 r6 W6 => ?_
        refine ⟨by show 3 ≤ _; decide, fun t ht => ?_⟩
        have sm : Same H6 (upd H6 t (.tup [.str y, v4, v6])) := same_upd ht
        exact (W6.of (Kept.ofSame sm)).done (s6.same sm) (.tup upd_same (.cons (Rep.str' hy) (.cons (((r4.keep (s4.tupK k5)).keep (s5.tupK k6)).keep (TupK.same sm)) (.cons (r6.keep (TupK.same sm)) .nil))))
end
end K9

set_option maxHeartbeats 2000000
/-! Nested tuples compared: comes_ahead. -/
namespace K9
open PySem PySem.Spec PyProof.Rows L2 K2

mutual
def dat : D → PyData
  | .int i => .int i
  | .str s => .str ⟨s.toArray⟩
  | .tup ds => .tuple (dats ds)
def dats : List D → List PyData
  | [] => []
  | d :: r => dat d :: dats r
end
mutual
theorem Rep.dp {K : PySem.W.Frag} {H : Hp} : ∀ {v : V} {d : D}, Rep H v d → Dp K H v (dat d)
  | _, _, .int i => by
    rw [dat]
    exact .int i
  | _, _, .str y => by
    rw [dat, ← str_of (rfl : cp y = cp y)]
    exact .str y
  | _, _, .tup e r => by
    rw [dat]
    exact .tup (SqT.of e) (RepL.dp r)
theorem RepL.dp {K : PySem.W.Frag} {H : Hp} : ∀ {vs : List V} {ds : List D}, RepL H vs ds → DpAll K H vs (dats ds)
  | _, _, .nil => .nil
  | _, _, .cons a r => .cons (Rep.dp a) (RepL.dp r)
end
mutual
theorem eqv_dat : ∀ a b : D, PyData.eqv (dat a) (dat b) = D.beq a b
  | .int a, .int b => by
    rw [dat, dat, D.beq, PyData.eqv]
    rfl
  | .str a, .str b => by
    rw [dat, dat, D.beq, PyData.eqv]
    by_cases h : a = b
    · rw [h]
      simp
    · have h2 : ¬ (⟨a.toArray⟩ : Str) = ⟨b.toArray⟩ := fun e => h (by
        have := congrArg cp e
        rwa [cp_of, cp_of] at this)
      rw [decide_eq_false h]
      simp [h2]
  | .tup a, .tup b => by
    rw [dat, dat, D.beq, PyData.eqv]
    exact eqv_dats a b
  | .int _, .str _ => by rw [dat, dat]; rfl
  | .int _, .tup _ => by rw [dat, dat]; rfl
  | .str _, .int _ => by rw [dat, dat]; rfl
  | .str _, .tup _ => by rw [dat, dat]; rfl
  | .tup _, .int _ => by rw [dat, dat]; rfl
  | .tup _, .str _ => by rw [dat, dat]; rfl
theorem eqv_dats : ∀ a b : List D, PyData.eqvAll (dats a) (dats b) = D.beqs a b
  | [], [] => rfl
  | [], _ :: _ => rfl
  | _ :: _, [] => rfl
  | a :: r, b :: t => by
    rw [dats, dats, PyData.eqvAll, D.beqs, eqv_dat a b, eqv_dats r t]
end
/-- what == may look at -/
def Shp (d : D) : Prop := SeqAt.shaped (dat d) = true
theorem lay_in : ∀ {ds : List D}, PyData.canLayAll0 (dats ds) = true → ∀ d ∈ ds, (dat d).canLay0 = true
  | d :: r, h, e, he => by
    rw [dats, PyData.canLayAll0, Bool.and_eq_true] at h
    rcases List.mem_cons.mp he with rfl | he
    · exact h.1
    · exact lay_in h.2 e he
theorem dep_in : ∀ {ds : List D} {n : Nat}, PyData.depthAll (dats ds) ≤ n → ∀ d ∈ ds, (dat d).depth ≤ n
  | d :: r, n, h, e, he => by
    rw [dats, PyData.depthAll] at h
    rcases List.mem_cons.mp he with rfl | he
    · omega
    · exact dep_in (n := n) (by omega) e he
theorem Shp.ins {ds : List D} (h : Shp (.tup ds)) : ∀ d ∈ ds, Shp d := fun d hd => by
  unfold Shp SeqAt.shaped at h ⊢
  rw [dat, PyData.canLay0, PyData.depth, Bool.and_eq_true, decide_eq_true_eq] at h
  rw [Bool.and_eq_true, decide_eq_true_eq]
  exact ⟨lay_in h.1 d hd, dep_in (n := 64) (by omega) d hd⟩

/-- no tuple -/
def Atom : D → Prop
  | .tup _ => False
  | _ => True
/-- parts that can be told apart by their order, n deep -/
inductive Like : Nat → List D → List D → Prop
  | nil1 {n : Nat} {es : List D} : Like n [] es
  | nil2 {n : Nat} {ds : List D} : Like n ds []
  | same {n : Nat} {a : D} {r t : List D} : Like n r t → Like n (a :: r) (a :: t)
  | atoms {n : Nat} {a b : D} {r t : List D} : a ≠ b → Atom a → Atom b → Like n (a :: r) (b :: t)
  | tups {n : Nat} {x y r t : List D} : x ≠ y → Like n x y → Like (n + 1) (.tup x :: r) (.tup y :: t)

theorem ltL_is : ∀ a b : List Nat, decide (a < b) = ltL a b
  | [], [] => by decide
  | [], b :: t => by rw [ltL, decide_eq_true (List.nil_lt_cons b t)]
  | a :: r, [] => by
    rw [ltL, decide_eq_false (List.not_lt_nil _)]
  | a :: r, b :: t => by
    rw [ltL]
    by_cases h : a = b
    · subst h
      rw [if_pos rfl, ← ltL_is r t]
      by_cases hz : r < t
      · rw [decide_eq_true hz, decide_eq_true (List.cons_lt_cons_iff.mpr (.inr ⟨rfl, hz⟩))]
      · rw [decide_eq_false hz, decide_eq_false]
        intro z
        rcases List.cons_lt_cons_iff.mp z with c | ⟨_, c⟩
        · exact Nat.lt_irrefl _ c
        · exact hz c
    · rw [if_neg h]
      by_cases hz : a < b
      · rw [decide_eq_true hz, decide_eq_true (List.cons_lt_cons_iff.mpr (.inl hz))]
      · rw [decide_eq_false hz, decide_eq_false]
        intro z
        rcases List.cons_lt_cons_iff.mp z with c | ⟨c, _⟩
        · exact hz c
        · exact h c

theorem scAhead : FnScope ["one", "other", "part", "twin"] ["one", "other"] (defScope sAhead) := ⟨rfl, rfl, rfl, by decide +kernel, rfl, by decide +kernel, by decide +kernel⟩
def spAhead (n : Nat) : Sp := fun vs H Q _ => ∃ (a b : Addr) (xs ys : List V) (ds es : List D), vs = [.ref a, .ref b] ∧ H a = some (.tup xs) ∧ RepL H xs ds ∧ H b = some (.tup ys) ∧ RepL H ys es ∧
  (∀ d ∈ ds, Shp d) ∧ (∀ d ∈ es, Shp d) ∧ Like n ds es ∧ ∀ H', Same H H' → Q (.bl (aheads ds es)) H'
theorem RepL.get {H : Hp} : ∀ {vs : List V} {ds : List D}, RepL H vs ds → ∀ {i : Nat} {d : D}, ds[i]? = some d → ∃ v, vs[i]? = some v ∧ Rep H v d
  | _, _, .nil, _, _, h => by simp at h
  | _, _, .cons a r, 0, _, h => ⟨_, rfl, by cases h; exact a⟩
  | _, _, .cons a r, i + 1, _, h => r.get (i := i) h
theorem beq_false {a b : D} (h : a ≠ b) : D.beq a b = false := by
  cases e : D.beq a b with
  | false => rfl
  | true => exact absurd (D.beq_iff.mp e) h
theorem beq_self (a : D) : D.beq a a = true := D.beq_iff.mpr rfl

section
variable {P : Program} {w : World} {K : PySem.W.Frag} {mg : Str → Option Value} {base : Heap}
theorem ok_ahead {f : Addr} {fd : FuncData} (F : Fun K "comes_ahead" "comes_ahead" sAhead f fd) (Z : Bare mg) (mT : mg "tuple" = none) (mZ : mg "zip" = none)
    (kf : PySem.W.keepIn K (.ref f) = true) (bf : Binds K fd ["one", "other"] []) (gf : mg "comes_ahead" = some (.ref f)) {n k : Nat} {sp : Sp}
    (G : FnOk P w K mg base CX0 k f fd ["one", "other"] sp) (hsp : ∀ m, n = m + 1 → sp = spAhead m) :
    FnOk P w K mg base CX0 (k + 1) f fd ["one", "other"] (spAhead n) := by
  refine F.ok scAhead (fun vs H Q E h => ?_) (fun cdv A outer s H vs Q E hr h => ?_)
  · obtain ⟨a, b, xs, ys, ds, es, rfl, _⟩ := h
    rfl
  · obtain ⟨a, b, xs, ys, ds, es, rfl, ha, ra, hb, rb, sa, sb, lk, q⟩ := h
    have hu : (A.deeper (envOfC (Str.ofString "comes_ahead") (defScope sAhead) s.heap.objs.size f cdv)).units + 64 < cLine := by
      have := hr.un
      omega
    refine ⟨_, pss_cons (ps_for PassesOwn.never rfl (RZ.pi_zipA (by rfl) mZ (pa_cons (pv 0) (pa_cons (pv 1) pa_nil)))
        (pg_tup rfl (pgs_cons (pg_name (i := 2) scAhead.nd rfl (.inl rfl)) (pgs_cons (pg_name (i := 3) scAhead.nd rfl (.inl rfl)) pgs_nil)))
        (pss_one (ps_if (pt_cmpR (op_neD hu) (pv 2) (pv 3) (nomark _))
          (pss_cons (ps_if (PW.pt (pw_and (pt_val (pe_callB call_isi (by rfl) Z.isin (by decide +kernel) (pa_cons (pv 2) (pa_cons (pe_bltn (v := .ty "tuple") (by rfl) mT (by decide +kernel) rfl) pa_nil))))
              (pw_and1 (pt_val (pe_callB call_isi (by rfl) Z.isin (by decide +kernel) (pa_cons (pv 3) (pa_cons (pe_bltn (v := .ty "tuple") (by rfl) mT (by decide +kernel) rfl) pa_nil)))))))
            (pss_one (ps_ret (pe_call G hr (by rfl) gf kf bf .nil pass0 (pa_cons (pv 2) (pa_cons (pv 3) pa_nil))))) pss_nil)
          (pss_one (ps_ret (pe_and (pe_cmpR op_eq (pe_callB call_isi (by rfl) Z.isin (by decide +kernel) (pa_cons (pv 2) (pa_cons (pe_bltn (v := .ty "int") (by rfl) Z.int (by decide +kernel) rfl) pa_nil)))
              (pe_callB call_isi (by rfl) Z.isin (by decide +kernel) (pa_cons (pv 3) (pa_cons (pe_bltn (v := .ty "int") (by rfl) Z.int (by decide +kernel) rfl) pa_nil))) (nomark _))
            (pe_one (pe_cmpR (OpR.or op_lt op_lt_str) (pv 2) (pv 3) (nomark _)))))))
          pss_nil)))
      (pss_one (ps_ret (pe_cmpR op_lt (pe_callB call_len_seq (by rfl) Z.len PySem.boot_len (pa_cons (pv 0) pa_nil)) (pe_callB call_len_seq (by rfl) Z.len PySem.boot_len (pa_cons (pv 1) pa_nil)) (nomark _)))), ?_⟩
    refine ⟨.ref a, rfl, .ref b, rfl, a, b, xs, ys, rfl, .inr ⟨SqT.of ha, SqT.of hb, ?_⟩⟩
    refine ⟨fun i m σ H' => m = ds.length - i ∧ (∃ o1 o2 : Option V, σ = [some (.ref a), some (.ref b), o1, o2]) ∧ Same H H' ∧ Like n (ds.drop i) (es.drop i) ∧ i ≤ ds.length ∧ i ≤ es.length ∧ aheads ds es = aheads (ds.drop i) (es.drop i),
      ⟨_, rfl, ⟨none, none, rfl⟩, Same.refl H, lk, Nat.zero_le _, Nat.zero_le _, rfl⟩, ?_⟩
    rintro i m σ H' ⟨rfl, ⟨o1, o2, rfl⟩, sm, lk', hi1, hi2, eq⟩
    have ha' := sm _ _ ha
    have hb' := sm _ _ hb
    have lx := ra.len
    have ly := rb.len
    have fin : (ds.length ≤ i ∨ es.length ≤ i) → aheads ds es = decide (ds.length < es.length) := fun h => by
      rw [eq]
      rcases h with h | h
      · rw [List.drop_eq_nil_of_le h]
        cases hd : es.drop i with
        | nil =>
          have := List.drop_eq_nil_iff.mp hd
          rw [decide_eq_false (by omega)]
          rfl
        | cons e t =>
          have hl := congrArg List.length hd
          rw [List.length_drop, List.length_cons] at hl
          rw [decide_eq_true (by omega)]
          rfl
      · rw [List.drop_eq_nil_of_le h, decide_eq_false (by omega)]
        cases ds.drop i <;> rfl
    by_cases he : ds.length ≤ i ∨ es.length ≤ i
    · left
      refine ⟨⟨xs, ys, SqT.of ha', SqT.of hb', by rw [lx, ly]; exact he⟩, ?_⟩
      have fe := fin he
      refine ⟨.ref a, rfl, a, xs, rfl, .inr (SqT.of ha'), .ref b, rfl, b, ys, rfl, .inr (SqT.of hb'), _, _, rfl, rfl, ?_⟩
      show Q (V.bl (decide (((xs.length : Nat) : Int) < ((ys.length : Nat) : Int)))) H'
      have e2 : decide (((xs.length : Nat) : Int) < ((ys.length : Nat) : Int)) = aheads ds es := by
        rw [fe, lx, ly]
        by_cases z : ds.length < es.length
        · rw [decide_eq_true z, decide_eq_true (by omega)]
        · rw [decide_eq_false z, decide_eq_false (by omega)]
      rw [e2]
      exact q H' sm
    · right
      obtain ⟨d, hd⟩ : ∃ d, ds[i]? = some d := ⟨_, List.getElem?_eq_getElem (by omega)⟩
      obtain ⟨e, hE⟩ : ∃ e, es[i]? = some e := ⟨_, List.getElem?_eq_getElem (by omega)⟩
      obtain ⟨v, hv, rv⟩ := ra.get hd
      obtain ⟨u, hU, ru⟩ := rb.get hE
      have dd : ds.drop i = d :: ds.drop (i + 1) := by
        obtain ⟨lt, ee⟩ := List.getElem?_eq_some_iff.mp hd
        rw [List.drop_eq_getElem_cons lt, ee]
      have de : es.drop i = e :: es.drop (i + 1) := by
        obtain ⟨lt, ee⟩ := List.getElem?_eq_some_iff.mp hE
        rw [List.drop_eq_getElem_cons lt, ee]
      refine ⟨⟨xs, ys, v, u, SqT.of ha', SqT.of hb', hv, hU⟩, fun σ' H' => ∃ m', m' < ds.length - i ∧ (m' = ds.length - (i + 1) ∧ (∃ o1 o2 : Option V, σ' = [some (.ref a), some (.ref b), o1, o2]) ∧ Same H H' ∧ Like n (ds.drop (i + 1)) (es.drop (i + 1)) ∧ i + 1 ≤ ds.length ∧ i + 1 ≤ es.length ∧ aheads ds es = aheads (ds.drop (i + 1)) (es.drop (i + 1))), fun _ _ w => w, ?_⟩
      rintro _ _ ⟨T, v', u', rfl, hT, rfl, g1, g2⟩
      obtain rfl : v = v' := Option.some.inj (hv.symm.trans (g1 xs (SqT.of ha')))
      obtain rfl : u = u' := Option.some.inj (hU.symm.trans (g2 ys (SqT.of hb')))
      have smT : Same H' (upd H' T (.tup [v, u])) := same_upd hT
      have sm' : Same H (upd H' T (.tup [v, u])) := sm.trans smT
      have rv' := rv.keep (TupK.same sm')
      have ru' := ru.keep (TupK.same sm')
      refine ⟨T, [v, u], rfl, SqT.of upd_same, rfl, ?_⟩
      generalize upd H' T (.tup [v, u]) = H2 at *
      have sd := sa d (List.mem_of_getElem? hd)
      have se := sb e (List.mem_of_getElem? hE)
      refine ⟨v, [u], rfl, u, [], rfl, rfl, ?_⟩
      refine ⟨v, rfl, u, rfl, dat d, dat e, rv'.dp, ru'.dp, sd, se, _, rfl, ?_⟩
      rw [eqv_dat]
      rw [dd, de] at lk' eq
      by_cases c : d = e
      · subst c
        rw [beq_self]
        refine iteF ⟨_, ?_, rfl, ⟨some v, some u, rfl⟩, sm', ?_, by omega, by omega, ?_⟩
        · omega
        · cases lk' with
          | same h => exact h
          | atoms h => exact absurd rfl h
          | tups h => exact absurd rfl h
        · rw [eq, aheads, beq_self, if_pos rfl]
      · rw [beq_false c]
        have ea : aheads ds es = aheadD d e := by
          rw [eq, aheads, beq_false c, if_neg Bool.false_ne_true]
        refine iteT ?_
        have lk2 : (Atom d ∧ Atom e) ∨ ∃ m x y, n = m + 1 ∧ d = .tup x ∧ e = .tup y ∧ Like m x y := by
          cases lk' with
          | same h => exact absurd rfl c
          | atoms _ h1 h2 => exact .inl ⟨h1, h2⟩
          | tups _ h => exact .inr ⟨_, _, _, rfl, rfl, rfl, h⟩
        rcases lk2 with ⟨h1, h2⟩ | ⟨m, x, y, rfl, rfl, rfl, lk3⟩
        · cases rv' with
          | int i =>
            refine ⟨_, rfl, _, .ty "tuple", _, .type "tuple", false, rfl, .ty "tuple", .base (.int i), kit_ty (by decide +kernel), _, rfl, iteF ?_⟩
            cases ru' with
            | int j =>
              refine ⟨_, rfl, _, .ty "int", _, .type "int", true, rfl, .ty "int", .base (.int i), kit_ty (by decide +kernel), _, rfl, _, .ty "int", _, .type "int", true, rfl, .ty "int", .base (.int j), kit_ty (by decide +kernel), rfl, _, rfl, ?_⟩
              rw [decide_eq_true rfl]
              refine iteT ⟨_, rfl, _, rfl, .inl ⟨i, j, rfl, rfl, ?_⟩⟩
              have ea2 : aheads ds es = decide (i < j) := by
                rw [ea]
                rfl
              show Q (V.bl (decide (i < j))) H2
              rw [← ea2]
              exact q H2 sm'
            | str y =>
              refine ⟨_, rfl, _, .ty "int", _, .type "int", true, rfl, .ty "int", .base (.int i), kit_ty (by decide +kernel), _, rfl, _, .ty "int", _, .type "int", false, rfl, .ty "int", .base (.str y), kit_ty (by decide +kernel), rfl, _, rfl, ?_⟩
              rw [decide_eq_false (by intro z; cases z)]
              refine iteF ?_
              have ea2 : aheads ds es = false := by
                rw [ea]
                rfl
              show Q (V.bl false) H2
              rw [← ea2]
              exact q H2 sm'
            | tup _ _ => exact h2.elim
          | str y =>
            refine ⟨_, rfl, _, .ty "tuple", _, .type "tuple", false, rfl, .ty "tuple", .base (.str y), kit_ty (by decide +kernel), _, rfl, iteF ?_⟩
            cases ru' with
            | int j =>
              refine ⟨_, rfl, _, .ty "int", _, .type "int", false, rfl, .ty "int", .base (.str y), kit_ty (by decide +kernel), _, rfl, _, .ty "int", _, .type "int", true, rfl, .ty "int", .base (.int j), kit_ty (by decide +kernel), rfl, _, rfl, ?_⟩
              rw [decide_eq_false (by intro z; cases z)]
              refine iteF ?_
              have ea2 : aheads ds es = false := by
                rw [ea]
                rfl
              show Q (V.bl false) H2
              rw [← ea2]
              exact q H2 sm'
            | str z =>
              refine ⟨_, rfl, _, .ty "int", _, .type "int", false, rfl, .ty "int", .base (.str y), kit_ty (by decide +kernel), _, rfl, _, .ty "int", _, .type "int", false, rfl, .ty "int", .base (.str z), kit_ty (by decide +kernel), rfl, _, rfl, ?_⟩
              rw [decide_eq_true rfl]
              refine iteT ⟨_, rfl, _, rfl, .inr ⟨y, z, rfl, rfl, ?_⟩⟩
              have ea2 : aheads ds es = decide (cp y < cp z) := by
                rw [ea, ltL_is]
                rfl
              show Q (V.bl (decide (cp y < cp z))) H2
              rw [← ea2]
              exact q H2 sm'
            | tup _ _ => exact h2.elim
          | tup _ _ => exact h1.elim
        · cases rv' with
          | tup hv1 rx =>
            cases ru' with
            | tup hu1 ry =>
              refine ⟨_, rfl, _, .ty "tuple", _, .type "tuple", true, rfl, .ty "tuple", .base (.tup hv1), kit_ty (by decide +kernel), _, rfl, iteT ?_⟩
              refine ⟨_, rfl, _, .ty "tuple", _, .type "tuple", true, rfl, .ty "tuple", .base (.tup hu1), kit_ty (by decide +kernel), _, rfl, iteT ?_⟩
              rw [hsp m rfl]
              refine ⟨_, rfl, _, rfl, _, _, _, _, x, y, rfl, hv1, rx, hu1, ry, sd.ins, se.ins, lk3, fun H' s3 => ?_⟩
              · rw [← show aheadD (.tup x) (.tup y) = aheads x y by rw [aheadD], ← ea]
                exact q H' (sm'.trans s3)

/-- comes_ahead, n deep -/
theorem ok_aheads {f : Addr} {fd : FuncData} (F : Fun K "comes_ahead" "comes_ahead" sAhead f fd) (Z : Bare mg) (mT : mg "tuple" = none) (mZ : mg "zip" = none)
    (kf : PySem.W.keepIn K (.ref f) = true) (bf : Binds K fd ["one", "other"] []) (gf : mg "comes_ahead" = some (.ref f)) :
    ∀ n : Nat, FnOk P w K mg base CX0 (n + 1) f fd ["one", "other"] (spAhead n)
  | 0 => ok_ahead F Z mT mZ kf bf gf (k := 0) (sp := fun _ _ _ _ => False) ⟨fun _ _ _ _ h => h.elim, fun _ _ _ _ _ _ _ _ _ _ _ _ _ h => h.elim⟩ (fun m h => by omega)
  | n + 1 => ok_ahead F Z mT mZ kf bf gf (ok_aheads F Z mT mZ kf bf gf n) (fun m h => by rw [show n = m by omega])
end
end K9

set_option maxHeartbeats 2000000
/-! str of whole numbers of up to 4300 digits. -/
namespace K9
open PySem PySem.Spec PyProof.Rows L2 K2

theorem call_str_dig {X : Cx} (hc : X.calm = true) (hD : X.base.NoDigits) :
    CallR X (.type "str") fun xs H Q => ∃ i : Int, xs = [V.int i] ∧ i.natAbs < 10 ^ 4300 ∧ Q (.str (Str.ofString (toString i))) H := by
  intro pins s σ H xs us Q I r h
  obtain ⟨i, rfl, hi, q⟩ := h
  obtain ⟨v, rfl, t, rfl⟩ := vals1 r
  refine PyProof.Rows.str_of_int_or (I.ok.hd hc) (hD.keeps (Inv.bk I)) (fun _ => ?_) (fun h => absurd hi (by omega))
  exact ⟨.str _, H, I.tok _, ⟨_, rfl⟩, q⟩
end K9

set_option maxHeartbeats 2000000
/-! The law's own texts: literals, paths, places. -/
namespace K9
open PySem PySem.Spec PyProof.Rows L2 K2

theorem cp_app (a b : Str) : cp (a ++ b) = cp a ++ cp b := by
  show (a.cps ++ b.cps).toList = _
  rw [Array.toList_append]
/-! ### numbers as texts -/
theorem str_int (i : Int) : cp (Str.ofString (toString i)) = pI i := by
  cases i with
  | ofNat m =>
    rw [PyProof.Rows.text_ofNat, cp_of]
    show _ = pI ((m : Nat) : Int)
    rw [pI_nat]
    rfl
  | negSucc m =>
    have e : toString (Int.negSucc m) = "-" ++ Nat.repr (m + 1) := rfl
    rw [e]
    show (Str.ofString ("-" ++ Nat.repr (m + 1))).cps.toList = _
    rw [PyProof.Rows.signs_ofString, String.toList_append, List.map_append]
    unfold pI
    rw [if_pos (by omega)]
    show [45] ++ _ = 45 :: pN (m + 1)
    unfold pN Nat.repr
    rw [String.toList_ofList]
    rfl
theorem pN_dig (n : Nat) : PySem.NumText.AllDigits (pN n) := TL.numL_digits n
theorem pN_lt (n : Nat) : n < 10 ^ (pN n).length := by
  have h := val_lt (pN_dig n)
  have e : PySem.NumText.digitsVal (pN n) = n := PySem.W.KIN.val_back n
  rw [e] at h
  exact h
theorem pI_lt {i : Int} {k : Nat} (h : (pI i).length ≤ k) : i.natAbs < 10 ^ k := by
  have l : (pN i.natAbs).length ≤ k := by
    unfold pI at h
    split at h
    · rw [List.length_cons] at h
      omega
    · exact h
  exact Nat.lt_of_lt_of_le (pN_lt _) (Nat.pow_le_pow_right (by decide) l)

theorem scLitT : FnScope ["_law_value"] ["_law_value"] (defScope sLitT) := ⟨rfl, rfl, rfl, by decide +kernel, rfl, by decide +kernel, by decide +kernel⟩
theorem scPathT : FnScope ["_law_path", "_law_part"] ["_law_path"] (defScope sPathT) := ⟨rfl, rfl, rfl, by decide +kernel, rfl, by decide +kernel, by decide +kernel⟩
theorem scPlaceT : FnScope ["_law_place"] ["_law_place"] (defScope sPlaceT) := ⟨rfl, rfl, rfl, by decide +kernel, rfl, by decide +kernel, by decide +kernel⟩

/-- a text's promise -/
def spTx (pr : D → List Nat) (ok : D → Prop) : Sp := fun vs H Q _ => ∃ v d, vs = [v] ∧ Rep H v d ∧ ok d ∧ (pr d).length ≤ most ∧ ∀ H' y, Same H H' → cp y = pr d → Q (.str y) H'

section
variable {P : Program} {w : World} {K : PySem.W.Frag} {mg : Str → Option Value} {base : Heap}
theorem ok_litT {f : Addr} {fd : FuncData} (F : Fun K "_law_lit_text" "_law_lit_text" sLitT f fd) (Z : Bare mg) (hD : base.NoDigits) :
    FnOk P w K mg base CX0 1 f fd ["_law_value"] (spTx pLit fun d => Atom d ∧ ∀ i, d = .int i → (pI i).length ≤ 1001) := by
  refine F.ok scLitT (fun vs H Q E h => ?_) (fun cdv A outer s H vs Q E hr h => ?_)
  · obtain ⟨v, d, rfl, _⟩ := h
    rfl
  · obtain ⟨v, d, rfl, rv, ⟨ha, hi⟩, hl, q⟩ := h
    refine ⟨_, pss_one (ps_ret (pe_ifExp (pt_val (pe_callB call_isi (by rfl) Z.isin (by decide +kernel)
          (pa_cons (pv 0) (pa_cons (pe_bltn (v := .ty "str") (by rfl) Z.str (by decide +kernel) rfl) pa_nil))))
        (pe_op op_add_str (pe_op op_add_str pe_str (pv 0)) pe_str)
        (pe_callTy (call_str_dig rfl hD) (by rfl) Z.str (by decide +kernel) (pa_cons (pv 0) pa_nil)))), ?_⟩
    cases rv with
    | tup _ _ => exact ha.elim
    | str y =>
      refine ⟨_, rfl, _, .ty "str", _, .type "str", true, rfl, .ty "str", .base (.str y), kit_ty (by decide +kernel), _, rfl, iteT ?_⟩
      refine ⟨_, rfl, _, y, rfl, rfl, ?_, _, _, rfl, rfl, ?_, ?_⟩
      · have := cp_len y
        unfold pLit at hl
        simp only [List.length_cons, List.length_append, List.length_nil] at hl
        have : (Str.ofString "\"").length = 1 := by decide +kernel
        exact Nat.le_trans (show _ ≤ most by omega) (by decide)
      · have := cp_len y
        unfold pLit at hl
        simp only [List.length_cons, List.length_append, List.length_nil] at hl
        have h1 : (Str.ofString "\"").length = 1 := by decide +kernel
        have h2 : (Str.ofString "\"" ++ y).length = 1 + y.length := by
          rw [← cp_len, cp_app, List.length_append, cp_len, cp_len, h1]
        exact Nat.le_trans (show _ ≤ most by omega) (by decide)
      · refine q H _ (Same.refl H) ?_
        rw [cp_app, cp_app, cp_quo]
        rfl
    | int i =>
      refine ⟨_, rfl, _, .ty "str", _, .type "str", false, rfl, .ty "str", .base (.int i), kit_ty (by decide +kernel), _, rfl, iteF ?_⟩
      refine ⟨_, rfl, i, rfl, Nat.lt_of_lt_of_le (pI_lt (hi i rfl)) (Nat.pow_le_pow_right (by decide) (by decide)), q H _ (Same.refl H) (str_int i)⟩
end
end K9

set_option maxHeartbeats 2000000
/-! The law's own texts: paths, places. -/
namespace K9
open PySem PySem.Spec PyProof.Rows L2 K2

/-- texts joined -/
def joinL (sep : List Nat) : List (List Nat) → List Nat
  | [] => []
  | [a] => a
  | a :: b :: r => a ++ sep ++ joinL sep (b :: r)
theorem joinL_mem {sep : List Nat} : ∀ {L : List (List Nat)} {a : List Nat}, a ∈ L → a.length ≤ (joinL sep L).length
  | [a], x, h => by
    rcases List.mem_singleton.mp h with rfl
    exact Nat.le_refl _
  | a :: b :: r, x, h => by
    rw [joinL, List.length_append, List.length_append]
    rcases List.mem_cons.mp h with rfl | h
    · omega
    · have := joinL_mem (sep := sep) h
      omega
theorem joinL_sum {sep : List Nat} : ∀ L : List (List Nat), (L.map (·.length)).sum + L.length * sep.length ≤ (joinL sep L).length + sep.length
  | [] => by simp
  | [a] => by simp [joinL]
  | a :: b :: r => by
    have := joinL_sum (sep := sep) (b :: r)
    rw [joinL, List.length_append, List.length_append, List.map_cons, List.sum_cons, List.length_cons, Nat.succ_mul]
    omega
theorem glue_cp (g : Str) : ∀ (L : List Str) (acc : Array Nat), (L.foldl (fun acc p => acc ++ g.cps ++ p.cps) acc).toList = acc.toList ++ (L.map fun p => cp g ++ cp p).flatten
  | [], acc => by simp
  | p :: r, acc => by
    rw [List.foldl_cons, glue_cp g r, Array.toList_append, Array.toList_append, List.map_cons, List.flatten_cons]
    simp [cp]
theorem joinL_cons {sep : List Nat} : ∀ (a : List Nat) (r : List (List Nat)), joinL sep (a :: r) = a ++ (r.map fun p => sep ++ p).flatten
  | a, [] => by simp [joinL]
  | a, b :: r => by
    rw [joinL, joinL_cons b r, List.map_cons, List.flatten_cons]
    simp
theorem join_cp (a : Str) : ∀ ys : List Str, cp (Txt.join a ys) = joinL (cp a) (ys.map cp)
  | [] => by
    rfl
  | y :: r => by
    show (List.foldl (fun acc p => acc ++ a.cps ++ p.cps) y.cps r).toList = _
    rw [glue_cp, List.map_cons, joinL_cons, List.map_map]
    rfl
theorem pPath_join : ∀ ds : List D, pPath ds = joinL [46] (ds.map pPart) := by
  intro ds
  cases ds with
  | nil => rfl
  | cons d r =>
    show pPart d ++ pMore r = joinL [46] (pPart d :: r.map pPart)
    induction r generalizing d with
    | nil => simp [pMore, joinL]
    | cons e t ih =>
      show _ = pPart d ++ [46] ++ joinL [46] (pPart e :: t.map pPart)
      rw [← ih e, pMore]
      simp

def partT (d : D) : List Nat := pPart d
section
variable {P : Program} {w : World} {K : PySem.W.Frag} {mg : Str → Option Value} {base : Heap}
/-- what of a path can be shown -/
def PathOk (ds : List D) : Prop := ∀ d ∈ ds, Atom d ∧ ∀ i, d = .int i → (pI i).length ≤ 1001
theorem ok_pathT {f : Addr} {fd : FuncData} (F : Fun K "_law_path_text" "_law_path_text" sPathT f fd) (Z : Bare mg) (hD : base.NoDigits) :
    FnOk P w K mg base CX0 1 f fd ["_law_path"] (spTx (fun d => match d with | .tup ds => pPath ds | _ => []) fun d => ∃ ds, d = .tup ds ∧ PathOk ds) := by
  refine F.ok scPathT (fun vs H Q E h => ?_) (fun cdv A outer s H vs Q E hr h => ?_)
  · obtain ⟨v, d, rfl, _⟩ := h
    rfl
  · obtain ⟨v, d, rfl, rv, ⟨ds, rfl, ok⟩, hl, q⟩ := h
    have hl : (pPath ds).length ≤ most := hl
    refine ⟨_, pss_one (ps_ret (pe_bm (T := "str") PySem.F.plainAttrs_str PySem.F.slot_str_join PySem.F.type_str_join mt_join pe_str (pa_cons
      (pe_lc (own := [("_law_part", 1)]) (g := gName 1) (tt := tYes) rfl scPathT.nd (pi_tup (pv 0))
            (blkOk_by (N := ["_law_path", "_law_part"]) (sc := defScope sPathT) (by decide +kernel))
            (fun _ _ _ _ _ => pg_name (i := 1) scPathT.nd rfl (Or.inl rfl)) (fun _ _ _ _ _ => pts_nil)
            (fun _ _ _ _ _ => pe_ifExp (pt_val (pe_callB (r := rIsi K) call_isi (by rfl) Z.isin (by decide +kernel)
          (pa_cons (pv 1) (pa_cons (pe_bltn (v := .ty "str") (by rfl) Z.str (by decide +kernel) rfl) pa_nil)))) (pv 1) (pe_op op_add_str pe_str (pe_callTy (call_str_dig rfl hD) (by rfl) Z.str (by decide +kernel) (pa_cons (pv 1) pa_nil))))) pa_nil))), ?_⟩
    cases rv with
    | tup ht rs =>
      rename_i t vs
      have vl := rs.len
      have js := joinL_sum (sep := [46]) (ds.map pPart)
      rw [← pPath_join, List.length_map, List.length_singleton] at js
      have nb : ds.length ≤ most + 1 := by omega
      refine ⟨rfl, .ref t, rfl, t, rfl, ⟨_, SqT.of ht⟩, fun D nD => ?_⟩
      refine lc_it (walk_tup (K := K) (a := t) (xs := vs)) (fun i G => ∃ ys : List Str, ys.map cp = (ds.take i).map pPart ∧ G = upd H D (.lst (ys.map V.str))) ⟨[], rfl, rfl⟩ (fun i G _ z => ?_) ?_ ?_
      · obtain ⟨ys, _, rfl⟩ := z
        exact SqT.of (same_upd nD _ _ ht)
      · rintro i x G G' hi ⟨ys, ey, rfl⟩ ⟨rfl, hx⟩
        have hi' : i < ds.length := by rw [← vl]; exact hi
        obtain ⟨d, hd⟩ : ∃ d, ds[i]? = some d := ⟨_, List.getElem?_eq_getElem hi'⟩
        obtain ⟨v, hv, rv⟩ := rs.get hd
        obtain rfl : v = x := Option.some.inj (hv.symm.trans hx)
        obtain ⟨da, di⟩ := ok d (List.mem_of_getElem? hd)
        have yl : ys.length < sizeLine := by
          have := congrArg List.length ey
          rw [List.length_map, List.length_map, List.length_take] at this
          exact Nat.lt_of_le_of_lt (show ys.length ≤ most + 1 by omega) (by decide)
        have next : ∀ z : Str, cp z = pPart d → ∃ zs : List Str, zs.map cp = (ds.take (i + 1)).map pPart ∧ upd (upd H D (.lst (ys.map V.str))) D (.lst (ys.map V.str ++ [V.str z])) = upd H D (.lst (zs.map V.str)) := fun z hz => by
          refine ⟨ys ++ [z], ?_, ?_⟩
          · rw [List.map_append, ey, List.take_add_one, hd, List.map_append]
            simp [hz]
          · rw [upd_upd, List.map_append]
            rfl
        refine ⟨rfl, ?_⟩
        cases rv with
        | tup _ _ => exact da.elim
        | str y =>
          refine ⟨_, rfl, _, .ty "str", _, .type "str", true, rfl, .ty "str", .base (.str y), kit_ty (by decide +kernel), _, rfl, iteT ?_⟩
          exact ⟨_, rfl, _, upd_same, by rw [List.length_map]; exact yl, next y rfl⟩
        | int n =>
          refine ⟨_, rfl, _, .ty "str", _, .type "str", false, rfl, .ty "str", .base (.int n), kit_ty (by decide +kernel), _, rfl, iteF ?_⟩
          have ll := joinL_mem (sep := [46]) (List.mem_map_of_mem (f := pPart) (List.mem_of_getElem? hd))
          rw [← pPath_join] at ll
          have l1 : (Str.ofString (toString n)).length ≤ most := by
            rw [← cp_len, str_int]
            simp only [pPart, List.length_cons] at ll
            omega
          refine ⟨_, rfl, n, rfl, Nat.lt_of_lt_of_le (pI_lt (di n rfl)) (Nat.pow_le_pow_right (by decide) (by decide)), _, _, rfl, rfl, ?_, ?_⟩
          · have h1 : (Str.ofString "#").length = 1 := by decide +kernel
            exact Nat.le_trans (show _ ≤ most + 1 by omega) (by decide)
          · refine ⟨_, upd_same, by rw [List.length_map]; exact yl, next _ ?_⟩
            rw [cp_app, cp_lit1, str_int]
            rfl
      · rintro G ⟨ys, ey, rfl⟩
        rw [vl, List.take_length] at ey
        have e : cp (Txt.join (Str.ofString ".") ys) = pPath ds := by
          rw [join_cp, cp_dot, ey, pPath_join]
        refine ⟨_, D, ys, rfl, rfl, .inl (SqL.of upd_same), ?_, q _ _ (same_upd nD) e⟩
        have h1 : (Str.ofString ".").length = 1 := by decide +kernel
        have e2 : ys.map (·.length) = (ds.map pPart).map (·.length) := by
          rw [← ey, List.map_map]
          exact List.map_congr_left fun y _ => (cp_len y).symm
        have e3 : ys.length = ds.length := by
          have := congrArg List.length ey
          rwa [List.length_map, List.length_map] at this
        rw [e2, e3, h1]
        exact Nat.le_trans (show _ ≤ most + 1 by omega) (by decide)
end
end K9

set_option maxHeartbeats 2000000
/-! The law's own texts: places, records. -/
namespace K9
open PySem PySem.Spec PyProof.Rows L2 K2

theorem scWorthT : FnScope ["_law_value", "_law_has_serials", "_law_found", "_law_serial", "_law_one"] ["_law_value", "_law_has_serials"] (defScope sWorthT) := ⟨rfl, rfl, rfl, by decide +kernel, rfl, by decide +kernel, by decide +kernel⟩
theorem scRecT : FnScope ["_law_record_here", "_law_has_serials", "_law_name_here", "_law_value"] ["_law_record_here", "_law_has_serials"] (defScope sRecT) := ⟨rfl, rfl, rfl, by decide +kernel, rfl, by decide +kernel, by decide +kernel⟩

def pPathD : D → List Nat
  | .tup ds => pPath ds
  | _ => []
section
variable {P : Program} {w : World} {K : PySem.W.Frag} {mg : Str → Option Value} {base : Heap}
theorem ok_placeT {f fP : Addr} {fd fdP : FuncData} (F : Fun K "_law_place_text" "_law_place_text" sPlaceT f fd)
    (kP : PySem.W.keepIn K (.ref fP) = true) (bP : Binds K fdP ["_law_path"] []) (gP : mg "_law_path_text" = some (.ref fP))
    (GP : FnOk P w K mg base CX0 1 fP fdP ["_law_path"] (spTx (fun d => match d with | .tup ds => pPath ds | _ => []) fun d => ∃ ds, d = .tup ds ∧ PathOk ds)) :
    FnOk P w K mg base CX0 2 f fd ["_law_place"] (spTx pPlace fun d => ∃ n p, d = .tup [.str n, .tup p] ∧ PathOk p) := by
  refine F.ok scPlaceT (fun vs H Q E h => ?_) (fun cdv A outer s H vs Q E hr h => ?_)
  · obtain ⟨v, d, rfl, _⟩ := h
    rfl
  · obtain ⟨v, d, rfl, rv, ⟨n, p, rfl, ok⟩, hl, q⟩ := h
    refine ⟨_, pss_one (ps_ret (pe_op op_add_str (pe_op op_add_str (pe_ix ix_tup (pv 0) pe_int (fun _ _ => rfl)) pe_str)
      (pe_call GP hr (by rfl) gP kP bP .nil pass0 (pa_cons (pe_ix ix_tup (pv 0) pe_int (fun _ _ => rfl)) pa_nil)))), ?_⟩
    cases rv with
    | tup ht rs =>
      rename_i t vs
      cases rs with
      | cons r0 rs =>
        cases rs with
        | cons r1 rs =>
          cases rs with
          | nil =>
            cases r0 with
            | str y =>
              have hl : (cp y ++ 47 :: pPath p).length ≤ most := hl
              rw [List.length_append, List.length_cons] at hl
              have ly := cp_len y
              have h1 : (Str.ofString "/").length = 1 := by decide +kernel
              refine ⟨_, rfl, t, _, 0, _, rfl, rfl, SqT.of ht, atI_nat (j := 0) rfl, y, _, rfl, rfl, Nat.le_trans (show _ ≤ most by omega) (by decide), ?_⟩
              refine ⟨_, rfl, t, _, 1, _, rfl, rfl, SqT.of ht, atI_nat (j := 1) rfl, _, _, rfl, r1, ⟨p, rfl, ok⟩, (by show (pPath p).length ≤ most; omega), fun H' z sm hz => ?_⟩
              have hz : cp z = pPath p := hz
              have lz := cp_len z
              rw [hz] at lz
              refine ⟨_, _, rfl, rfl, ?_, q H' _ sm ?_⟩
              · have e : (y ++ Str.ofString "/").length = y.length + 1 := by
                  rw [← cp_len, cp_app, List.length_append, cp_len, cp_len, h1]
                exact Nat.le_trans (show _ ≤ most by omega) (by decide)
              · rw [cp_app, cp_app, cp_slash, hz]
                show _ = cp y ++ 47 :: pPath p
                simp
end
end K9

set_option maxHeartbeats 2000000
/-! The law's own texts of records. -/
namespace K9
open PySem PySem.Spec PyProof.Rows L2 K2

mutual
def intsOk : D → Bool
  | .int i => decide ((pI i).length ≤ 1001)
  | .str _ => true
  | .tup ds => intsOks ds
def intsOks : List D → Bool
  | [] => true
  | d :: r => intsOk d && intsOks r
end
theorem intsOks_mem : ∀ {ds : List D}, intsOks ds = true → ∀ d ∈ ds, intsOk d = true
  | d :: r, h, e, he => by
    rw [intsOks, Bool.and_eq_true] at h
    rcases List.mem_cons.mp he with rfl | he
    · exact h.1
    · exact intsOks_mem h.2 e he
theorem intsOk_int {d : D} (h : intsOk d = true) : ∀ i, d = .int i → (pI i).length ≤ 1001 := by
  rintro i rfl
  rw [intsOk] at h
  exact of_decide_eq_true h
def spWorthT (n : Nat) : Sp := fun vs H Q _ => ∃ v d, vs = [v, .bl true] ∧ Rep H v d ∧ WOk (RecOk n) d ∧ intsOk d = true ∧ (pWorth d).length ≤ most ∧ ∀ H' y, Same H H' → cp y = pWorth d → Q (.str y) H'
def spRecT (n : Nat) : Sp := fun vs H Q _ => ∃ v ds, vs = [v, .bl true] ∧ Rep H v (.tup ds) ∧ RecOk n ds ∧ intsOks ds = true ∧ (pRec ds).length ≤ most ∧ ∀ H' y, Same H H' → cp y = pRec ds → Q (.str y) H'
/-- a pair's text without the blank ahead -/
def pPair' : D → List Nat
  | .tup (a :: v :: _) => pNm a ++ 58 :: 32 :: pWorth v
  | _ => []
theorem pPair_eq {s : List Nat} {v : D} : pPair (.tup [.str s, v]) = 32 :: pPair' (.tup [.str s, v]) := by
  rw [pPair, pPair']
theorem pPairs_flat {n : Nat} : ∀ {ds : List D}, RecOk n ds → pPairs ds = ((ds.map pPair').map fun p => [32] ++ p).flatten
  | [], _ => by rw [pPairs]; rfl
  | d :: r, h => by
    cases n with
    | zero => exact h.elim
    | succ n =>
      obtain ⟨s, v, rfl, _, _⟩ := h d List.mem_cons_self
      have hr : RecOk (n + 1) r := fun e he => h e (List.mem_cons_of_mem _ he)
      rw [pPairs, pPairs_flat hr, pPair_eq, List.map_cons, List.map_cons, List.flatten_cons]
      rfl
theorem pRec_join {n : Nat} {ds : List D} (h : RecOk n ds) : pRec ds = joinL [32] ([123] :: (ds.map pPair' ++ [[125]])) := by
  rw [joinL_cons, List.map_append, List.flatten_append, ← pPairs_flat h]
  unfold pRec
  simp

theorem lens (L : List Str) : L.map (·.length) = (L.map cp).map (·.length) := by
  rw [List.map_map]
  exact List.map_congr_left fun y _ => (cp_len y).symm
section
variable {P : Program} {w : World} {K : PySem.W.Frag} {mg : Str → Option Value} {base : Heap}
theorem ok_recT {n k : Nat} {f fW : Addr} {fd fdW : FuncData} (F : Fun K "_law_record_text" "_law_record_text" sRecT f fd)
    (kW : PySem.W.keepIn K (.ref fW) = true) (bW : Binds K fdW ["_law_value", "_law_has_serials"] []) (gW : mg "_law_worth_text" = some (.ref fW))
    (GW : FnOk P w K mg base CX0 k fW fdW ["_law_value", "_law_has_serials"] (spWorthT n)) :
    FnOk P w K mg base CX0 (k + 1) f fd ["_law_record_here", "_law_has_serials"] (spRecT (n + 1)) := by
  refine F.ok scRecT (fun vs H Q E h => ?_) (fun cdv A outer s H vs Q E hr h => ?_)
  · obtain ⟨v, d, rfl, _⟩ := h
    rfl
  · obtain ⟨v, ds, rfl, rv, ok, io, hl, q⟩ := h
    refine ⟨_, pss_one (ps_ret (pe_bm (T := "str") PySem.F.plainAttrs_str PySem.F.slot_str_join PySem.F.type_str_join mt_join pe_str (pa_cons
      (pe_op op_cat (pe_op op_cat (pe_lst (pa_cons pe_str pa_nil))
        (pe_lc (own := [("_law_name_here", 2), ("_law_value", 3)]) (g := gTup K 2 (gCons (gName 2) (gCons (gName 3) gNil))) (tt := tYes) rfl scRecT.nd (pi_tup (pv 0))
            (blkOk_by (N := ["_law_record_here", "_law_has_serials", "_law_name_here", "_law_value"]) (sc := defScope sRecT) (by decide +kernel))
            (fun _ _ _ _ _ => pg_tup rfl (pgs_cons (pg_name (i := 2) scRecT.nd rfl (Or.inl rfl)) (pgs_cons (pg_name (i := 3) scRecT.nd rfl (Or.inl rfl)) pgs_nil))) (fun _ _ _ _ _ => pts_nil)
            (fun _ _ _ _ _ => pe_op op_add_str (pe_op op_add_str (pv 2) pe_str) (pe_call GW hr (by rfl) gW kW bW .nil pass0 (pa_cons (pv 3) (pa_cons (pv 1) pa_nil))))))
        (pe_lst (pa_cons pe_str pa_nil))) pa_nil))), ?_⟩
    cases rv with
    | tup ht rs =>
      rename_i t vs
      have vl := rs.len
      have js := joinL_sum (sep := [32]) ([123] :: (ds.map pPair' ++ [[125]]))
      rw [← pRec_join ok, List.length_cons, List.length_append, List.length_map, List.length_singleton, List.length_singleton] at js
      -- ["{"]
      refine ⟨rfl, by show 1 ≤ _; decide, fun p1 h1 => ?_⟩
      have sm1 : Same H (upd H p1 (.lst [.str "{"])) := same_upd h1
      have hp1 : (upd H p1 (.lst [.str "{"])) p1 = some (.lst [.str "{"]) := upd_same
      generalize upd H p1 (.lst [.str "{"]) = H1 at sm1 hp1
      have ht1 := sm1 _ _ ht
      have rs1 := rs.keep (TupK.same sm1)
      refine ⟨.ref t, rfl, t, rfl, ⟨_, SqT.of ht1⟩, fun D nD => ?_⟩
      refine lc_it (walk_tup (K := K) (a := t) (xs := vs)) (fun i G => ∃ ys : List Str, ys.map cp = (ds.take i).map pPair' ∧ G D = some (.lst (ys.map V.str)) ∧ Same H1 G) ⟨[], rfl, upd_same, same_upd nD⟩ (fun i G _ z => ?_) ?_ ?_
      · obtain ⟨ys, _, _, sm⟩ := z
        exact SqT.of (sm _ _ ht1)
      · rintro i x G G' hi ⟨ys, ey, hD, smG⟩ ⟨rfl, hx⟩
        have hi' : i < ds.length := by rw [← vl]; exact hi
        obtain ⟨d, hd⟩ : ∃ d, ds[i]? = some d := ⟨_, List.getElem?_eq_getElem hi'⟩
        obtain ⟨v, hv, rv⟩ := rs1.get hd
        obtain rfl : v = x := Option.some.inj (hv.symm.trans hx)
        obtain ⟨sn, u, rfl, sok, wok⟩ := ok d (List.mem_of_getElem? hd)
        have io2 := intsOks_mem io _ (List.mem_of_getElem? hd)
        have yl : ys.length < sizeLine := by
          have := congrArg List.length ey
          rw [List.length_map, List.length_map, List.length_take] at this
          exact Nat.lt_of_le_of_lt (show ys.length ≤ most + 1 by omega) (by decide)
        have ll := joinL_mem (sep := [32]) (show pPair' (.tup [.str sn, u]) ∈ [123] :: (ds.map pPair' ++ [[125]]) from List.mem_cons_of_mem _ (List.mem_append_left _ (List.mem_map_of_mem (List.mem_of_getElem? hd))))
        rw [← pRec_join ok, pPair', List.length_append, List.length_cons, List.length_cons, pNm] at ll
        cases rv with
        | tup hvt rvs =>
          cases rvs with
          | cons r0 rvs =>
            cases rvs with
            | cons r1 rvs =>
              cases rvs with
              | nil =>
                cases r0 with
                | str y =>
                  refine ⟨_, _, rfl, SqT.of (smG _ _ hvt), rfl, _, _, rfl, _, _, rfl, rfl, rfl, ?_⟩
                  have ly := cp_len y
                  have l2 : (Str.ofString ": ").length = 2 := by decide +kernel
                  refine ⟨_, rfl, y, _, rfl, rfl, Nat.le_trans (show _ ≤ most + 2 by omega) (by decide), ?_⟩
                  refine ⟨_, rfl, _, rfl, _, u, rfl, r1.keep (TupK.same smG), wok, ?_, by omega, fun G2 z smz hz => ?_⟩
                  · rw [intsOk, intsOks, intsOks, Bool.and_eq_true, Bool.and_eq_true] at io2
                    exact io2.2.1
                  · have lz := cp_len z
                    rw [hz] at lz
                    have e1 : (y ++ Str.ofString ": ").length = y.length + 2 := by
                      rw [← cp_len, cp_app, List.length_append, cp_len, cp_len, l2]
                    refine ⟨_, _, rfl, rfl, Nat.le_trans (show _ ≤ most by omega) (by decide), ?_⟩
                    refine ⟨_, smz _ _ hD, by rw [List.length_map]; exact yl, ys ++ [y ++ Str.ofString ": " ++ z], ?_, ?_, ?_⟩
                    · rw [List.map_append, ey, List.take_add_one, hd, List.map_append]
                      simp [cp_app, cp_colon, hz, pPair', pNm]
                    · rw [upd_same, List.map_append]
                      rfl
                    · exact fun b o hb => by
                        rw [upd_ne (ne_of_none hb nD)]
                        exact smz _ _ (smG _ _ hb)
      · rintro G ⟨ys, ey, hD, smG⟩
        rw [vl, List.take_length] at ey
        have yn : ys.length = ds.length := by
          have := congrArg List.length ey
          rwa [List.length_map, List.length_map] at this
        have eL : ([V.str "{"] ++ ys.map V.str) ++ [V.str "}"] = (((Str.ofString "{") :: (ys ++ [Str.ofString "}"])).map V.str) := by simp
        have e : cp (Txt.join (Str.ofString " ") ((Str.ofString "{") :: (ys ++ [Str.ofString "}"]))) = pRec ds := by
          rw [join_cp, cp_blank, List.map_cons, List.map_append, ey, pRec_join ok, cp_open]
          rfl
        have l1 : ([V.str "{"] ++ ys.map V.str).length = ys.length + 1 := by simp
        refine ⟨p1, D, _, _, rfl, rfl, smG _ _ hp1, hD, ?_, fun p2 h2 => ⟨by show 1 ≤ _; decide, fun p3 h3 => ?_⟩⟩
        · rw [List.length_map]
          exact Nat.le_trans (show _ ≤ most + 2 by show 1 + _ ≤ _; omega) (by decide)
        have n23 : p2 ≠ p3 := fun z => by
          rw [← z, upd_same] at h3
          cases h3
        refine ⟨p2, p3, _, _, rfl, rfl, by rw [upd_ne n23, upd_same], upd_same, ?_, fun p4 h4 => ?_⟩
        · rw [l1]
          exact Nat.le_trans (show _ ≤ most + 2 by show _ + 1 ≤ _; omega) (by decide)
        rw [eL]
        refine ⟨_, p4, _, rfl, rfl, .inl (SqL.of upd_same), ?_, q _ _ ?_ e⟩
        · have h1 : (Str.ofString " ").length = 1 := by decide +kernel
          have e2 : ((Str.ofString "{") :: (ys ++ [Str.ofString "}"])).map (·.length) = ([123] :: (ds.map pPair' ++ [[125]])).map (·.length) := by
            rw [lens, List.map_cons, List.map_append, ey, cp_open]
            rfl
          rw [e2, h1, List.length_cons, List.length_append, List.length_singleton, yn]
          exact Nat.le_trans (show _ ≤ most + 2 by omega) (by decide)
        · exact sm1.trans (smG.trans ((same_upd h2).trans ((same_upd h3).trans (same_upd h4))))
end
end K9

set_option maxHeartbeats 2000000
/-! The law's own texts of what a field holds. -/
namespace K9
open PySem PySem.Spec PyProof.Rows L2 K2

def rNeM (K : PySem.W.Frag) : V → V → Hp → VK → Prop := fun x y H Q => ∃ d e, Dp K H x d ∧ Dp K H y e ∧ d.canLay0 = true ∧ e.canLay0 = true ∧ min d.depth e.depth ≤ 64 ∧ Q (.bl (!PyData.eqv d e)) H
theorem op_neM {X : Cx} (hu : X.A.units + 64 < cLine) : OpR X (compareOp .NotEq) (rNeM X.K) := by
  intro pins s σ H x y v u Q I rx ry h
  obtain ⟨d, e, hd, he, ld, le, md, q⟩ := h
  obtain ⟨as, r1⟩ := Dp.reads I d x v hd rx
  obtain ⟨bs, r2⟩ := Dp.reads I e y u he ry
  exact SeqAt.compareNe_reads r1 r2 ld le (by omega) ⟨.bl _, H, I, rfl, q⟩

theorem small_str {s : List Nat} (h : ∀ c ∈ s, c < 128) : PyData.strOk ⟨s.toArray⟩ = true := by
  unfold PyData.strOk
  rw [Array.all_eq_true_iff_forall_mem]
  intro c hc
  have := h c (by simpa using hc)
  exact decide_eq_true (by omega)
theorem name_small {s : List Nat} (h : nameOk s = true) : ∀ c ∈ s, c < 128 := by
  unfold nameOk at h
  simp only [Bool.and_eq_true, List.all_eq_true] at h
  intro c hc
  have := h.1.2 c hc
  simp [isLet] at this
  omega
theorem lit_small {s : List Nat} (h : strOk s = true) : ∀ c ∈ s, c < 128 := by
  unfold strOk at h
  simp only [Bool.and_eq_true, List.all_eq_true] at h
  intro c hc
  have := h.2 c hc
  simp [isIn] at this
  omega
theorem lay_str {s : List Nat} (h : ∀ c ∈ s, c < 128) : (dat (.str s)).canLay0 = true := by
  rw [dat, PyData.canLay0]
  exact small_str h
theorem lay_all : ∀ {ds : List D}, (∀ d ∈ ds, (dat d).canLay0 = true) → PyData.canLayAll0 (dats ds) = true
  | [], _ => rfl
  | d :: r, h => by
    rw [dats, PyData.canLayAll0, h d List.mem_cons_self, lay_all fun e he => h e (List.mem_cons_of_mem _ he)]
    rfl
theorem lay_tup {ds : List D} (h : ∀ d ∈ ds, (dat d).canLay0 = true) : (dat (.tup ds)).canLay0 = true := by
  rw [dat, PyData.canLay0]
  exact lay_all h
theorem lay_int (i : Int) : (dat (.int i)).canLay0 = true := by
  rw [dat]
  rfl
theorem lay_worth {Pr : List D → Prop} (hp : ∀ ds, Pr ds → ∀ d ∈ ds, (dat d).canLay0 = true) {v : D} (h : WOk Pr v) : (dat v).canLay0 = true := by
  rcases h with h | ⟨ds, rfl, _, h⟩ | ⟨ds, rfl, h⟩
  · cases v with
    | int i => exact lay_int i
    | str s => exact lay_str (lit_small h)
    | tup ds => exact h.elim
  · exact lay_tup (hp ds h)
  · refine lay_tup fun d hd => ?_
    obtain ⟨i, es, rfl, he⟩ := h d hd
    refine lay_tup fun e hm => ?_
    simp only [List.mem_cons, List.not_mem_nil, or_false] at hm
    rcases hm with rfl | rfl
    · exact lay_int _
    · exact lay_tup (hp es he)
theorem lay_rec : ∀ {n : Nat} {ds : List D}, RecOk n ds → ∀ d ∈ ds, (dat d).canLay0 = true
  | 0, _, h, _, _ => h.elim
  | n + 1, ds, h, d, hd => by
    obtain ⟨s, v, rfl, hs, hv⟩ := h d hd
    refine lay_tup fun e hm => ?_
    simp only [List.mem_cons, List.not_mem_nil, or_false] at hm
    rcases hm with rfl | rfl
    · exact lay_str (name_small hs)
    · exact lay_worth (fun es he => lay_rec he) hv

/-- a row's text without the blank ahead: two words -/
def pRow' : D → List Nat
  | .tup (a :: .tup es :: _) => 35 :: (pNo a ++ 32 :: pRec es)
  | _ => []
theorem pRow_eq {i : Int} {es : List D} : pRow (.tup [.int i, .tup es]) = 32 :: pRow' (.tup [.int i, .tup es]) := by
  rw [pRow, pRow']
  rfl
def rowWords : D → List (List Nat)
  | .tup (a :: .tup es :: _) => [35 :: pNo a, pRec es]
  | _ => []
def Rows (Pr : List D → Prop) (ds : List D) : Prop := ∀ d ∈ ds, ∃ (i : Nat) (es : List D), d = .tup [.int i, .tup es] ∧ Pr es
theorem pRows_words {Pr : List D → Prop} : ∀ {ds : List D}, Rows Pr ds → pRows ds = (((ds.map rowWords).flatten).map fun p => [32] ++ p).flatten
  | [], _ => by rw [pRows]; rfl
  | d :: r, h => by
    obtain ⟨i, es, rfl, _⟩ := h d List.mem_cons_self
    have hr : Rows Pr r := fun e he => h e (List.mem_cons_of_mem _ he)
    rw [pRows, pRows_words hr, pRow_eq, List.map_cons, List.flatten_cons, List.map_append, List.flatten_append]
    simp [pRow', rowWords]
theorem pWorth_join {Pr : List D → Prop} {ds : List D} (h : Rows Pr ds) (hb : recB ds = false) : pWorth (.tup ds) = joinL [32] ([91] :: ((ds.map rowWords).flatten ++ [[93]])) := by
  rw [joinL_cons, List.map_append, List.flatten_append, ← pRows_words h, pWorth, if_neg (by rw [hb]; exact Bool.false_ne_true)]
  simp

theorem else2 {c : Bool} {X R S : Prop} (h : c = true → S → X) (s : S) : if c = true then X else (if false = true then R else S) := by
  cases c with
  | false => exact iteF (iteF s)
  | true => exact iteT (h rfl s)
section
variable {P : Program} {w : World} {K : PySem.W.Frag} {mg : Str → Option Value} {base : Heap}
theorem ok_worthT {n k : Nat} {f fL fR : Addr} {fd fdL fdR : FuncData} (F : Fun K "_law_worth_text" "_law_worth_text" sWorthT f fd) (Z : Bare mg) (hD : base.NoDigits) (mT : mg "tuple" = none)
    (kL : PySem.W.keepIn K (.ref fL) = true) (bL : Binds K fdL ["_law_value"] []) (gL : mg "_law_lit_text" = some (.ref fL)) (GL : FnOk P w K mg base CX0 1 fL fdL ["_law_value"] (spTx pLit fun d => Atom d ∧ ∀ i, d = .int i → (pI i).length ≤ 1001))
    (kR : PySem.W.keepIn K (.ref fR) = true) (bR : Binds K fdR ["_law_record_here", "_law_has_serials"] []) (gR : mg "_law_record_text" = some (.ref fR))
    (hk : 1 ≤ k) (GR : FnOk P w K mg base CX0 k fR fdR ["_law_record_here", "_law_has_serials"] (spRecT n)) :
    FnOk P w K mg base CX0 (k + 1) f fd ["_law_value", "_law_has_serials"] (spWorthT n) := by
  refine F.ok scWorthT (fun vs H Q E h => ?_) (fun cdv A outer s H vs Q E hr h => ?_)
  · obtain ⟨v, d, rfl, _⟩ := h
    rfl
  · obtain ⟨v, d, rfl, rv, ok, io, hl, q⟩ := h
    have hu : (A.deeper (envOfC (Str.ofString "_law_worth_text") (defScope sWorthT) s.heap.objs.size f cdv)).units + 64 < cLine := by
      have := hr.un
      omega
    have hr1 := hr.mono (show 1 ≤ k by omega)
    refine ⟨_, pss_cons (ps_if (pt_not (pt_val (pe_callB call_isi (by rfl) Z.isin (by decide +kernel) (pa_cons (pv 0) (pa_cons (pe_bltn (v := .ty "tuple") (by rfl) mT (by decide +kernel) rfl) pa_nil)))))
        (pss_one (ps_ret (pe_call GL hr1 (by rfl) gL kL bL .nil pass0 (pa_cons (pv 0) pa_nil)))) pss_nil)
      (pss_cons (ps_if (PW.pt (pw_and (pt_cmpR (op_neM hu) (pv 0) (pe_tup pa_nil) (nomark _))
          (pw_and1 (pt_val (pe_callB call_isi (by rfl) Z.isin (by decide +kernel) (pa_cons (pe_ix ix_tup (pe_ix ix_tup (pv 0) pe_int (fun _ _ => rfl)) pe_int (fun _ _ => rfl)) (pa_cons (pe_bltn (v := .ty "str") (by rfl) Z.str (by decide +kernel) rfl) pa_nil)))))))
        (pss_one (ps_ret (pe_call GR hr (by rfl) gR kR bR .nil pass0 (pa_cons (pv 0) (pa_cons (pv 1) pa_nil))))) pss_nil)
      (pss_cons (ps_set (i := 2) scWorthT.nd rfl (.inl rfl) (pe_lst (pa_cons pe_str pa_nil)))
      (pss_cons (ps_for PassesOwn.never rfl (pi_tup (pv 0)) (pg_tup rfl (pgs_cons (pg_name (i := 3) scWorthT.nd rfl (.inl rfl)) (pgs_cons (pg_name (i := 4) scWorthT.nd rfl (.inl rfl)) pgs_nil)))
        (pss_one (ps_expr (pe_bm PySem.F.plainAttrs_list PySem.F.slot_list_extend PySem.F.type_list_extend mt_extend (pv 2)
          (pa_cons (pe_op op_cat (pe_op op_rep (pe_lst (pa_cons (pe_op op_add_str pe_str (pe_callTy (call_str_dig rfl hD) (by rfl) Z.str (by decide +kernel) (pa_cons (pv 3) pa_nil))) pa_nil)) (pe_callTy call_int1 (by rfl) Z.int (by decide +kernel) (pa_cons (pv 1) pa_nil)))
            (pe_lst (pa_cons (pe_call GR hr (by rfl) gR kR bR .nil pass0 (pa_cons (pv 4) (pa_cons (pv 1) pa_nil))) pa_nil))) pa_nil)))))
      (pss_one (ps_ret (pe_bm (T := "str") PySem.F.plainAttrs_str PySem.F.slot_str_join PySem.F.type_str_join mt_join pe_str (pa_cons (pe_op op_cat (pv 2) (pe_lst (pa_cons pe_str pa_nil))) pa_nil))))))), ?_⟩
    cases rv with
    | int i =>
      refine ⟨_, rfl, _, .ty "tuple", _, .type "tuple", false, rfl, .ty "tuple", .base (.int i), kit_ty (by decide +kernel), _, rfl, iteT ?_⟩
      exact ⟨_, rfl, _, .int i, rfl, .int i, ⟨True.intro, intsOk_int io⟩, hl, fun H' y sm hy => q H' y sm hy⟩
    | str y =>
      refine ⟨_, rfl, _, .ty "tuple", _, .type "tuple", false, rfl, .ty "tuple", .base (.str y), kit_ty (by decide +kernel), _, rfl, iteT ?_⟩
      exact ⟨_, rfl, _, .str _, rfl, .str y, ⟨True.intro, fun i e => by cases e⟩, hl, fun H' y sm hy => q H' y sm hy⟩
    | tup ht rs =>
      rename_i t vs ds
      refine ⟨_, rfl, _, .ty "tuple", _, .type "tuple", true, rfl, .ty "tuple", .base (.tup ht), kit_ty (by decide +kernel), _, rfl, iteF ?_⟩
      refine ⟨_, rfl, by show 0 ≤ _; decide, fun t0 h0 => ?_⟩
      have sm0 : Same H (upd H t0 (.tup [])) := same_upd h0
      have rs0 := rs.keep (TupK.same sm0)
      have ht0 := sm0 _ _ ht
      refine ⟨dat (.tup ds), .tuple [], (Rep.tup ht0 rs0).dp, .tup (SqT.of upd_same) .nil, lay_worth (fun es he => lay_rec he) ok, rfl, ?_, _, rfl, ?_⟩
      · refine Nat.le_trans (Nat.min_le_right _ _) ?_
        decide
      generalize upd H t0 (.tup []) = H1 at sm0 rs0 ht0
      rcases ok with ok | ⟨_, e, hne, hrec⟩ | ⟨_, e, rows⟩
      · exact ok.elim
      · cases e
        -- a record
        cases ds with
        | nil => exact absurd rfl hne
        | cons d0 dr =>
          have hn : n ≠ 0 := by
            rintro rfl
            exact hrec.elim
          obtain ⟨n', rfl⟩ : ∃ n', n = n' + 1 := ⟨n - 1, by omega⟩
          obtain ⟨sn, u, rfl, _, _⟩ := hrec d0 List.mem_cons_self
          have hw : pWorth (.tup (.tup [.str sn, u] :: dr)) = pRec (.tup [.str sn, u] :: dr) := by
            rw [pWorth, show recB (.tup [.str sn, u] :: dr) = true from rfl, if_pos rfl]
            rfl
          cases rs0 with
          | cons r0 rr =>
            cases r0 with
            | tup h1 r1 =>
              cases r1 with
              | cons q0 q1 =>
                cases q0 with
                | str y =>
                  refine iteT ⟨_, rfl, _, _, 0, _, rfl, rfl, SqT.of ht0, atI_nat (j := 0) rfl, _, _, 0, _, rfl, rfl, SqT.of h1, atI_nat (j := 0) rfl, _, .ty "str", _, .type "str", true, rfl, .ty "str", .base (.str y), kit_ty (by decide +kernel), _, rfl, iteT ?_⟩
                  refine ⟨_, rfl, _, rfl, _, _, rfl, .tup ht0 (.cons (.tup h1 (.cons (.str y) q1)) rr), hrec, ?_, ?_, fun H' z sm hz => q H' z (sm0.trans sm) (by rw [hz, hw])⟩
                  · rw [intsOk] at io
                    exact io
                  · rw [← hw]
                    exact hl
      · cases e
        have rows : Rows (RecOk n) ds := rows
        rw [intsOk] at io
        have hb : recB ds = false := by
          cases ds with
          | nil => rfl
          | cons d0 dr =>
            obtain ⟨i, es, rfl, _⟩ := rows d0 List.mem_cons_self
            rfl
        have vl := rs0.len
        have js := joinL_sum (sep := [32]) ([91] :: ((ds.map rowWords).flatten ++ [[93]]))
        rw [← pWorth_join rows hb, List.length_cons, List.length_append, List.length_singleton, List.length_singleton] at js
        have jm : ∀ a ∈ (ds.map rowWords).flatten, a.length ≤ most := fun a ha => by
          have := joinL_mem (sep := [32]) (show a ∈ [91] :: ((ds.map rowWords).flatten ++ [[93]]) from List.mem_cons_of_mem _ (List.mem_append_left _ ha))
          rw [← pWorth_join rows hb] at this
          omega
        have two : ∀ {L : List D}, Rows (RecOk n) L → ((L.map rowWords).flatten).length = 2 * L.length := fun {L} => by
          induction L with
          | nil => intro _; rfl
          | cons d r ih =>
            intro h
            obtain ⟨i, es, rfl, _⟩ := h d List.mem_cons_self
            rw [List.map_cons, List.flatten_cons, List.length_append, ih fun e he => h e (List.mem_cons_of_mem _ he), List.length_cons]
            show 2 + _ = _
            omega
        have tl := two rows
        refine else2 (fun hc S => ?_) ?_
        · cases ds with
          | nil => cases hc
          | cons d0 dr =>
            obtain ⟨i, es, rfl, _⟩ := rows d0 List.mem_cons_self
            cases rs0 with
            | cons r0 rr =>
              cases r0 with
              | tup h1 r1 =>
                cases r1 with
                | cons q0 q1 =>
                  cases q0 with
                  | int j =>
                    exact ⟨_, rfl, _, _, 0, _, rfl, rfl, SqT.of ht0, atI_nat (j := 0) rfl, _, _, 0, _, rfl, rfl, SqT.of h1, atI_nat (j := 0) rfl, _, .ty "str", _, .type "str", false, rfl, .ty "str", .base (.int _), kit_ty (by decide +kernel), _, rfl, iteF S⟩
        refine ⟨by show 1 ≤ _; decide, fun p1 np1 => ?_⟩
        have sm1 : Same H1 (upd H1 p1 (.lst [.str "["])) := same_upd np1
        have hp1 : (upd H1 p1 (.lst [.str "["])) p1 = some (.lst [.str "["]) := upd_same
        generalize upd H1 p1 (.lst [.str "["]) = H2 at sm1 hp1
        have ht2 := sm1 _ _ ht0
        have rs2 := rs0.keep (TupK.same sm1)
        refine ⟨.ref t, rfl, t, rfl, ⟨_, SqT.of ht2⟩, for_it (walk_tup (K := K) (a := t) (xs := vs)) (fun i σ G => ∃ (o3 o4 : Option V) (ys : List Str), σ = [some (.ref t), some (.bl true), some (.ref p1), o3, o4] ∧
          ys.map cp = [91] :: ((ds.take i).map rowWords).flatten ∧ G p1 = some (.lst (ys.map V.str)) ∧ Kept p1 H2 G)
          ⟨none, none, [Str.ofString "["], rfl, by rw [List.map_cons, cp_brack]; rfl, hp1, Kept.refl _ _⟩ (fun i σ G _ h => ?_) ?_ ?_⟩
        · obtain ⟨_, _, _, _, _, _, k⟩ := h
          refine SqT.of (k _ _ ht2 ?_)
          rintro rfl
          rw [hp1] at ht2
          cases ht2
        · rintro i x σ G G' hi ⟨o3, o4, ys, rfl, ey, hG, kG⟩ ⟨rfl, hx⟩
          have hi' : i < ds.length := by rw [← vl]; exact hi
          obtain ⟨d, hd⟩ : ∃ d, ds[i]? = some d := ⟨_, List.getElem?_eq_getElem hi'⟩
          have ntp : ∀ {b : Addr} {us : List V}, H2 b = some (.tup us) → b ≠ p1 := fun h => by
            rintro rfl
            rw [hp1] at h
            cases h
          have kT : TupK H2 G' := fun b us h => kG _ _ h (ntp h)
          obtain ⟨v, hv, rv⟩ := rs2.get hd
          obtain rfl : v = x := Option.some.inj (hv.symm.trans hx)
          obtain ⟨sr, es, rfl, hes⟩ := rows d (List.mem_of_getElem? hd)
          have io2 := intsOks_mem io _ (List.mem_of_getElem? hd)
          rw [intsOk, intsOks, intsOks, Bool.and_eq_true, Bool.and_eq_true, intsOk, intsOk] at io2
          have inr : ∀ a ∈ rowWords (.tup [.int (sr : Int), .tup es]), a.length ≤ most := fun a ha => jm a (List.mem_flatten.mpr ⟨_, List.mem_map_of_mem (List.mem_of_getElem? hd), ha⟩)
          have i1 := inr (35 :: pNo (.int (sr : Int))) (by simp [rowWords])
          have i2 := inr (pRec es) (by simp [rowWords])
          have hlen := congrArg List.length ey
          rw [List.length_map, List.length_cons, two (fun e he => rows e (List.mem_of_mem_take he)), List.length_take] at hlen
          cases rv with
          | tup hvt rvs =>
            cases rvs with
            | cons r0 rvs =>
              cases rvs with
              | cons r1 rvs =>
                cases rvs with
                | nil =>
                  cases r0 with
                  | int _ =>
                    refine ⟨_, _, rfl, SqT.of (kT _ _ hvt), rfl, _, _, rfl, _, _, rfl, rfl, ?_⟩
                    refine ⟨.ref p1, rfl, .inl ⟨rfl, _, SqL.of hG⟩, ?_⟩
                    have io3 : (pI (sr : Int)).length ≤ 1001 := of_decide_eq_true io2.1
                    refine ⟨_, rfl, (sr : Int), rfl, Nat.lt_of_lt_of_le (pI_lt io3) (Nat.pow_le_pow_right (by decide) (by decide)), _, _, rfl, rfl, ?_, by show 1 ≤ _; decide, fun a1 h1 => ?_⟩
                    · have h1 : (Str.ofString "#").length = 1 := by decide +kernel
                      have h2 : (Str.ofString (toString (sr : Int))).length = (pI (sr : Int)).length := by rw [← cp_len, str_int]
                      exact Nat.le_trans (show _ ≤ most by rw [h1, h2]; exact Nat.le_trans (show _ ≤ 1002 by omega) (by decide)) (by decide)
                    have wd : cp (Str.ofString "#" ++ Str.ofString (toString (sr : Int))) = 35 :: pNo (.int (sr : Int)) := by
                      rw [cp_app, cp_lit1, str_int]
                      rfl
                    generalize Str.ofString "#" ++ Str.ofString (toString (sr : Int)) = w1 at wd ⊢
                    have sa1 : Same G' (upd G' a1 (.lst [.str w1])) := same_upd h1
                    have ha1 : (upd G' a1 (.lst [.str w1])) a1 = some (.lst [.str w1]) := upd_same
                    generalize upd G' a1 (.lst [.str w1]) = G1 at sa1 ha1
                    refine ⟨_, rfl, .inr ⟨true, rfl, a1, 1, _, rfl, rfl, ha1, by decide, by decide, by show 1 * 1 ≤ _; decide, fun a2 h2 => ?_⟩⟩
                    have sa2 : Same G1 (upd G1 a2 (.lst [.str w1])) := same_upd h2
                    have ha2 : (upd G1 a2 (.lst [.str w1])) a2 = some (.lst [.str w1]) := upd_same
                    show tLst _ _ (upd G1 a2 (.lst [.str w1])) _
                    generalize upd G1 a2 (.lst [.str w1]) = G2 at sa2 ha2
                    have sG2 : Same G' G2 := sa1.trans sa2
                    refine ⟨_, rfl, _, rfl, _, es, rfl, (r1.keep kT).keep (TupK.same sG2), hes, ?_, i2, fun G3 z s3 hz => ?_⟩
                    · exact io2.2.1
                    refine ⟨by show 1 ≤ _; decide, fun a3 h3 => ?_⟩
                    have n23 : a2 ≠ a3 := ne_of_none (s3 _ _ ha2) h3
                    refine ⟨a2, a3, _, _, rfl, rfl, by rw [upd_ne n23]; exact s3 _ _ ha2, upd_same, by show 1 + 1 ≤ _; decide, fun a4 h4 => ?_⟩
                    have s4 : Same G' (upd (upd G3 a3 (.lst [.str z])) a4 (.lst ([.str w1] ++ [.str z]))) := sG2.trans (s3.trans ((same_upd h3).trans (same_upd h4)))
                    refine ⟨p1, a4, _, _, rfl, rfl, s4 _ _ hG, upd_same, ?_, ?_⟩
                    · rw [List.length_map]
                      exact Nat.le_trans (show _ ≤ most + 4 by show _ + 2 ≤ _; omega) (by decide)
                    · refine ⟨_, _, ys ++ [w1, z], rfl, ?_, ?_, ?_⟩
                      · rw [List.map_append, ey, List.take_add_one, hd, List.map_append, List.flatten_append]
                        simp [rowWords, wd, hz]
                      · rw [upd_same, List.map_append]
                        rfl
                      · intro b o hb nb
                        rw [upd_ne nb]
                        exact s4 _ _ (kG _ _ hb nb)
        · rintro σ G ⟨o3, o4, ys, rfl, ey, hG, kG⟩
          rw [vl, List.take_length] at ey
          have hlen := congrArg List.length ey
          rw [List.length_map, List.length_cons, tl] at hlen
          refine ⟨rfl, .ref p1, rfl, by show 1 ≤ _; decide, fun a1 h1 => ?_⟩
          have n1 : p1 ≠ a1 := ne_of_none hG h1
          refine ⟨p1, a1, _, _, rfl, rfl, by rw [upd_ne n1]; exact hG, upd_same, ?_, fun a2 h2 => ?_⟩
          · rw [List.length_map]
            exact Nat.le_trans (show _ ≤ most + 4 by show _ + 1 ≤ _; omega) (by decide)
          have eL : ys.map V.str ++ [V.str "]"] = ((ys ++ [Str.ofString "]"]).map V.str) := by simp
          have ec : (ys ++ [Str.ofString "]"]).map cp = [91] :: ((ds.map rowWords).flatten ++ [[93]]) := by
            rw [List.map_append, ey]
            have : cp (Str.ofString "]") = [93] := by decide +kernel
            simp [this]
          have e : cp (Txt.join (Str.ofString " ") (ys ++ [Str.ofString "]"])) = pWorth (.tup ds) := by
            rw [join_cp, cp_blank, ec, pWorth_join rows hb]
          rw [eL]
          refine ⟨_, a2, _, rfl, rfl, .inl (SqL.of upd_same), ?_, q _ _ ?_ e⟩
          · have h1 : (Str.ofString " ").length = 1 := by decide +kernel
            rw [lens, ec, h1, List.length_append, List.length_singleton, hlen]
            exact Nat.le_trans (show _ ≤ most + 4 by omega) (by decide)
          · intro b o hb
            have nbp : b ≠ p1 := ne_of_none (sm0 _ _ hb) np1
            have g := kG _ _ (sm1 _ _ (sm0 _ _ hb)) nbp
            exact (same_upd h2) _ _ ((same_upd h1) _ _ g)
end
end K9

set_option maxHeartbeats 400000
/-! What the readers give can be shown. -/
namespace K9
open PySem PySem.Spec PyProof.Rows L2 K2

def Small (s : List Nat) : Prop := ∀ c ∈ s, c < 128
theorem rNum_len {r r' : List Nat} {n : Nat} (h : rNum r = some (n, r')) : (pN n).length ≤ 1000 := by
  unfold rNum at h
  split at h
  · next c =>
    cases h
    rw [dig_back (fun c hc => mem_takeWhile hc) c]
    unfold digOk at c
    simp only [Bool.and_eq_true, decide_eq_true_eq] at c
    exact c.1.2
  · cases h
theorem rSer_len {r r' : List Nat} {n : Nat} (h : rSer r = some (n, r')) : (pN n).length ≤ 1000 := by
  unfold rSer at h
  obtain ⟨r1, h1, h2⟩ := Option.bind_eq_some_iff.mp h
  exact rNum_len h2
theorem pI_nlen {n : Nat} (h : (pN n).length ≤ 1000) : (pI (n : Int)).length ≤ 1001 := by
  rw [pI_nat]
  omega
theorem pI_neg {n : Nat} (h : (pN n).length ≤ 1000) : (pI (-(n : Int))).length ≤ 1001 := by
  unfold pI
  split
  · rw [Int.natAbs_neg, Int.natAbs_natCast, List.length_cons]
    omega
  · rw [Int.natAbs_neg, Int.natAbs_natCast]
    omega
/-- a part that can be shown, and laid -/
def PtFine (d : D) : Prop := Atom d ∧ (∀ i, d = .int i → (pI i).length ≤ 1001) ∧ ∀ s, d = .str s → Small s
theorem PtFine.int {i : Int} (h : (pI i).length ≤ 1001) : PtFine (.int i) := ⟨trivial, (fun j e => by cases e; exact h), (fun s e => nomatch e)⟩
theorem PtFine.str {s : List Nat} (h : Small s) : PtFine (.str s) := ⟨trivial, (fun j e => nomatch e), (fun s e => by cases e; exact h)⟩
theorem rName_small {r s r' : List Nat} (h : rName r = some (s, r')) : Small s := name_small (rName_some h).2
theorem rPart_fine {st : Bool} {r r' : List Nat} {d : D} (h : rPart st r = some (d, r')) : PtFine d := by
  unfold rPart at h
  split at h
  · obtain ⟨r1, h1, h2⟩ := Option.map_eq_some_iff.mp h
    cases h2
    exact .str fun c hc => by
      rw [List.mem_singleton.mp hc]
      decide
  · split at h
    · obtain ⟨⟨n, r2⟩, h1, h2⟩ := Option.map_eq_some_iff.mp h
      cases h2
      exact .int (pI_nlen (rSer_len h1))
    · obtain ⟨⟨s, r2⟩, h1, h2⟩ := Option.map_eq_some_iff.mp h
      cases h2
      exact .str (rName_small h1)
theorem rMore_fine {st : Bool} : ∀ {n : Nat} {r r' : List Nat} {ds : List D}, rMore st n r = some (ds, r') → ∀ d ∈ ds, PtFine d
  | 0, r, r', ds, h => by
    cases h
    exact fun d q => (List.not_mem_nil q).elim
  | n + 1, r, r', ds, h => by
    unfold rMore at h
    split at h
    · cases h
      exact fun d q => (List.not_mem_nil q).elim
    · next r1 e =>
      obtain ⟨⟨d, r2⟩, h1, h2⟩ := Option.bind_eq_some_iff.mp h
      obtain ⟨⟨es, r3⟩, h3, h4⟩ := Option.map_eq_some_iff.mp h2
      cases h4
      intro e q
      rcases List.mem_cons.mp q with rfl | q
      · exact rPart_fine h1
      · exact rMore_fine h3 e q
theorem rPath_fine {st : Bool} {r r' : List Nat} {ds : List D} (h : rPath st r = some (ds, r')) : ∀ d ∈ ds, PtFine d := by
  unfold rPath at h
  obtain ⟨⟨d, r2⟩, h1, h2⟩ := Option.bind_eq_some_iff.mp h
  obtain ⟨⟨es, r3⟩, h3, h4⟩ := Option.map_eq_some_iff.mp h2
  cases h4
  intro e q
  rcases List.mem_cons.mp q with rfl | q
  · exact rPart_fine h1
  · exact rMore_fine h3 e q
theorem PathOk.of {ds : List D} (h : ∀ d ∈ ds, PtFine d) : PathOk ds := fun d hd => ⟨(h d hd).1, (h d hd).2.1⟩
theorem rPlace_fine {r r' : List Nat} {d : D} (h : rPlace r = some (d, r')) : ∃ n p, d = .tup [.str n, .tup p] ∧ PathOk p := by
  unfold rPlace at h
  obtain ⟨⟨f, r1⟩, h1, h⟩ := Option.bind_eq_some_iff.mp h
  obtain ⟨r2, h2, h⟩ := Option.bind_eq_some_iff.mp h
  obtain ⟨⟨p, r3⟩, h3, h4⟩ := Option.map_eq_some_iff.mp h
  cases h4
  exact ⟨f, p, rfl, .of (rPath_fine h3)⟩
/-- a spot that can be shown, and laid -/
def SpFine (d : D) : Prop := ∃ f o p, d = .tup [.str f, .str o, .tup p] ∧ Small f ∧ Small o ∧ ∀ e ∈ p, PtFine e
theorem rSpot_fine {r r' : List Nat} {d : D} (h : rSpot r = some (d, r')) : SpFine d := by
  unfold rSpot at h
  obtain ⟨⟨f, r1⟩, h1, h⟩ := Option.bind_eq_some_iff.mp h
  obtain ⟨r2, h2, h⟩ := Option.bind_eq_some_iff.mp h
  obtain ⟨⟨o, r3⟩, h3, h⟩ := Option.bind_eq_some_iff.mp h
  obtain ⟨r4, h4, h⟩ := Option.bind_eq_some_iff.mp h
  obtain ⟨⟨p, r5⟩, h5, h6⟩ := Option.map_eq_some_iff.mp h
  cases h6
  refine ⟨f, o, p, rfl, rName_small h1, ?_, rPath_fine h5⟩
  split at h3
  · cases h3
    exact fun c hc => (List.not_mem_nil hc).elim
  · exact rName_small h3
theorem rLit_fine {r r' : List Nat} {d : D} (h : rLit r = some (d, r')) : Atom d ∧ intsOk d = true := by
  unfold rLit at h
  split at h
  · next r1 e =>
    obtain ⟨⟨s, r2⟩, h1, h2⟩ := Option.map_eq_some_iff.mp h
    cases h2
    exact ⟨trivial, rfl⟩
  · split at h
    · obtain ⟨⟨n, r2⟩, h1, h2⟩ := Option.map_eq_some_iff.mp h
      cases h2
      exact ⟨trivial, by rw [intsOk]; exact decide_eq_true (pI_nlen (rNum_len h1))⟩
    · split at h
      · cases h
      · obtain ⟨⟨n, r2⟩, h1, h2⟩ := Option.map_eq_some_iff.mp h
        cases h2
        exact ⟨trivial, by rw [intsOk]; exact decide_eq_true (pI_neg (rNum_len h1))⟩
section
variable {rec : List Nat → R (List D)} (hrec : ∀ r d r', rec r = some (d, r') → intsOks d = true)
include hrec
theorem rRows_int : ∀ {n : Nat} {r r' : List Nat} {ds : List D}, rRows rec n r = some (ds, r') → intsOks ds = true
  | 0, r, r', ds, h => by
    unfold rRows at h
    obtain ⟨r1, h1, h2⟩ := Option.map_eq_some_iff.mp h
    cases h2
    rfl
  | n + 1, r, r', ds, h => by
    unfold rRows at h
    split at h
    · cases h
      rfl
    · obtain ⟨r1, h1, h⟩ := Option.bind_eq_some_iff.mp h
      obtain ⟨⟨s, r2⟩, h2, h⟩ := Option.bind_eq_some_iff.mp h
      obtain ⟨r3, h3, h⟩ := Option.bind_eq_some_iff.mp h
      obtain ⟨⟨e, r4⟩, h4, h⟩ := Option.bind_eq_some_iff.mp h
      obtain ⟨⟨y, r5⟩, h5, h6⟩ := Option.map_eq_some_iff.mp h
      cases h6
      rw [intsOks, intsOk, intsOks, intsOk, intsOks, intsOk, intsOks, rRows_int h5, hrec _ _ _ h4]
      simp only [Bool.and_true, decide_eq_true_eq]
      exact pI_nlen (rSer_len h2)
theorem rCont_int {r r' : List Nat} {v : D} (h : rCont rec r = some (v, r')) : intsOk v = true := by
  unfold rCont at h
  split at h
  · obtain ⟨⟨ds, r2⟩, h1, h2⟩ := Option.map_eq_some_iff.mp h
    cases h2
    rw [intsOk]
    exact rRows_int hrec h1
  · split at h
    · cases h
    · split at h
      · obtain ⟨⟨ds, r2⟩, h1, h2⟩ := Option.map_eq_some_iff.mp h
        cases h2
        rw [intsOk]
        exact hrec _ _ _ h1
      · exact (rLit_fine h).2
theorem rPairs_int : ∀ {n : Nat} {r r' : List Nat} {ds : List D}, rPairs rec n r = some (ds, r') → intsOks ds = true
  | 0, r, r', ds, h => by
    unfold rPairs at h
    obtain ⟨r1, h1, h2⟩ := Option.map_eq_some_iff.mp h
    cases h2
    rfl
  | n + 1, r, r', ds, h => by
    unfold rPairs at h
    split at h
    · cases h
      rfl
    · obtain ⟨r1, h1, h⟩ := Option.bind_eq_some_iff.mp h
      obtain ⟨⟨s, r2⟩, h2, h⟩ := Option.bind_eq_some_iff.mp h
      obtain ⟨r3, h3, h⟩ := Option.bind_eq_some_iff.mp h
      obtain ⟨⟨v, r4⟩, h4, h⟩ := Option.bind_eq_some_iff.mp h
      obtain ⟨⟨y, r5⟩, h5, h6⟩ := Option.map_eq_some_iff.mp h
      cases h6
      rw [intsOks, intsOk, intsOks, intsOk, intsOks, intsOks, rPairs_int h5, rCont_int hrec h4]
      rfl
end
theorem rRec_int : ∀ {n : Nat} {r r' : List Nat} {ds : List D}, rRec n r = some (ds, r') → intsOks ds = true
  | 0, r, r', ds, h => by cases h
  | n + 1, r, r', ds, h => by
    unfold rRec at h
    obtain ⟨r1, h1, h2⟩ := Option.bind_eq_some_iff.mp h
    exact rPairs_int (fun r d r' h => rRec_int h) h2
end K9

set_option maxHeartbeats 400000
/-! The law's own texts of steps. -/
namespace K9
open PySem PySem.Spec PyProof.Rows L2 K2

theorem Rep.strI {H : Hp} {v : V} {s : List Nat} (h : Rep H v (.str s)) : ∃ y, v = .str y ∧ cp y = s := by
  generalize e : D.str s = d at h
  cases h with
  | int _ => cases e
  | str y => exact ⟨y, rfl, (by injection e with e; exact e.symm)⟩
  | tup _ _ => cases e
theorem Rep.intI {H : Hp} {v : V} {i : Int} (h : Rep H v (.int i)) : v = .int i := by
  generalize e : D.int i = d at h
  cases h with
  | int _ => injection e with e; rw [e]
  | str _ => cases e
  | tup _ _ => cases e
section
variable {P : Program} {w : World} {K : PySem.W.Frag} {mg : Str → Option Value} {base : Heap}
/-- records' texts, n deep -/
theorem ok_recTs {f fL fW : Addr} {fd fdL fdW : FuncData} (F : Fun K "_law_record_text" "_law_record_text" sRecT f fd) (Z : Bare mg) (hD : base.NoDigits) (mT : mg "tuple" = none)
    (kL : PySem.W.keepIn K (.ref fL) = true) (bL : Binds K fdL ["_law_value"] []) (gL : mg "_law_lit_text" = some (.ref fL)) (GL : FnOk P w K mg base CX0 1 fL fdL ["_law_value"] (spTx pLit fun d => Atom d ∧ ∀ i, d = .int i → (pI i).length ≤ 1001))
    (kR : PySem.W.keepIn K (.ref f) = true) (bR : Binds K fd ["_law_record_here", "_law_has_serials"] []) (gR : mg "_law_record_text" = some (.ref f))
    (FW : Fun K "_law_worth_text" "_law_worth_text" sWorthT fW fdW) (kW : PySem.W.keepIn K (.ref fW) = true) (bW : Binds K fdW ["_law_value", "_law_has_serials"] []) (gW : mg "_law_worth_text" = some (.ref fW)) :
    ∀ n : Nat, FnOk P w K mg base CX0 (1 + 2 * n) f fd ["_law_record_here", "_law_has_serials"] (spRecT n)
  | 0 => ⟨fun vs H Q E h => by obtain ⟨_, _, _, _, h, _⟩ := h; exact h.elim, fun A outer s H args us vs Q E _ _ _ _ h => by obtain ⟨_, _, _, _, h, _⟩ := h; exact h.elim⟩
  | n + 1 => by
    have G := ok_recTs F Z hD mT kL bL gL GL kR bR gR FW kW bW gW n
    have GW := ok_worthT FW Z hD mT kL bL gL GL kR bR gR (by omega) G
    have := ok_recT F kW bW gW GW
    rw [show 1 + 2 * (n + 1) = 1 + 2 * n + 1 + 1 by omega]
    exact this

theorem scStepT : FnScope ["_law_step", "_law_found"] ["_law_step"] (defScope sStepT) := ⟨rfl, rfl, rfl, by decide +kernel, rfl, by decide +kernel, by decide +kernel⟩
/-- a place that can be shown -/
def PlFine (d : D) : Prop := ∃ n p, d = .tup [.str n, .tup p] ∧ PathOk p
inductive StepFine : D → Prop
  | set (p v : D) : PlFine p → Atom v → intsOk v = true → StepFine (.tup [.str (txt "set"), p, v])
  | take (p : D) (n : Nat) : PlFine p → (pI n).length ≤ 1001 → StepFine (.tup [.str (txt "take"), p, .int n])
  | put (p : D) (i s : Nat) (ds : List D) : PlFine p → (pI i).length ≤ 1001 → (pI s).length ≤ 1001 → RecOk 40 ds → intsOks ds = true → StepFine (.tup [.str (txt "put"), p, .int i, .int s, .tup ds])
  | carry (p o : D) (s i : Nat) : PlFine p → PlFine o → (pI s).length ≤ 1001 → (pI i).length ≤ 1001 → StepFine (.tup [.str (txt "carry"), p, .int s, o, .int i])
/-- the words of a step's text -/
def stepWords : D → List (List Nat)
  | .tup [.str w, p, v] => [w, pPlace p, if w = txt "set" then pLit v else 35 :: pNo v]
  | .tup [.str w, p, a, b, c] => if w = txt "put" then [w, pPlace p, pNo a, 35 :: pNo b, match c with | .tup ds => pRec ds | _ => []] else [w, pPlace p, 35 :: pNo a, pPlace b, pNo c]
  | _ => []
theorem pStep_join {d : D} (h : StepFine d) : pStep d = joinL [32] (stepWords d) := by
  cases h with
  | set p v _ _ => simp [pStep, stepWords, joinL]
  | take p n _ =>
    have h : ¬ txt "take" = txt "set" := by decide +kernel
    simp [pStep, stepWords, joinL, h]
  | put p i s ds _ _ =>
    simp [pStep, stepWords, joinL]
  | carry p o s i _ _ =>
    have h : ¬ txt "carry" = txt "put" := by decide +kernel
    simp [pStep, stepWords, joinL, h]

theorem tifT {K : PySem.W.Frag} {H : Hp} {t : Addr} {y z : Str} {us : List V} {wd zw : List Nat} {σ : L2.St} {A B : TS} {D : Ends} (ht : H t = some (.tup (.str y :: us))) (hσ : σ[0]? = some (some (.ref t))) (hy : cp y = wd) (hz : cp z = zw) (e : wd = zw) (h : A D σ H) :
    tIfS (tTest (tOp rEq (tOp (rIxT K) (tVar 0) (tC (.int 0))) (tC (.str z)))) A B D σ H := by
  refine ⟨_, hσ, t, _, 0, _, rfl, rfl, SqT.of ht, atI_nat (j := 0) rfl, rfl, _, rfl, ?_⟩
  rw [dec_str, hy, hz, decide_eq_true e]
  exact iteT h
theorem tifF {K : PySem.W.Frag} {H : Hp} {t : Addr} {y z : Str} {us : List V} {wd zw : List Nat} {σ : L2.St} {A B : TS} {D : Ends} (ht : H t = some (.tup (.str y :: us))) (hσ : σ[0]? = some (some (.ref t))) (hy : cp y = wd) (hz : cp z = zw) (e : ¬ wd = zw) (h : B D σ H) :
    tIfS (tTest (tOp rEq (tOp (rIxT K) (tVar 0) (tC (.int 0))) (tC (.str z)))) A B D σ H := by
  refine ⟨_, hσ, t, _, 0, _, rfl, rfl, SqT.of ht, atI_nat (j := 0) rfl, rfl, _, rfl, ?_⟩
  rw [dec_str, hy, hz, decide_eq_false e]
  exact iteF h
theorem ok_stepT {f fP fL fR : Addr} {fd fdP fdL fdR : FuncData} (F : Fun K "_law_step_text" "_law_step_text" sStepT f fd) (Z : Bare mg) (hD : base.NoDigits)
    (kP : PySem.W.keepIn K (.ref fP) = true) (bP : Binds K fdP ["_law_place"] []) (gP : mg "_law_place_text" = some (.ref fP)) (GP : FnOk P w K mg base CX0 2 fP fdP ["_law_place"] (spTx pPlace fun d => ∃ n p, d = .tup [.str n, .tup p] ∧ PathOk p))
    (kL : PySem.W.keepIn K (.ref fL) = true) (bL : Binds K fdL ["_law_value"] []) (gL : mg "_law_lit_text" = some (.ref fL)) (GL : FnOk P w K mg base CX0 1 fL fdL ["_law_value"] (spTx pLit fun d => Atom d ∧ ∀ i, d = .int i → (pI i).length ≤ 1001))
    (kR : PySem.W.keepIn K (.ref fR) = true) (bR : Binds K fdR ["_law_record_here", "_law_has_serials"] []) (gR : mg "_law_record_text" = some (.ref fR)) (GR : FnOk P w K mg base CX0 81 fR fdR ["_law_record_here", "_law_has_serials"] (spRecT 40)) :
    FnOk P w K mg base CX0 82 f fd ["_law_step"] (spTx pStep StepFine) := by
  refine F.ok scStepT (fun vs H Q E h => ?_) (fun cdv A outer s H vs Q E hr h => ?_)
  · obtain ⟨v, d, rfl, _⟩ := h
    rfl
  · obtain ⟨v, d, rfl, rv, fine, hl, q⟩ := h
    have hr1 := hr.mono (show 1 ≤ 81 by decide)
    have hr2 := hr.mono (show 2 ≤ 81 by decide)
    refine ⟨_, (pss_cons (ps_set (i := 1) scStepT.nd rfl (.inl rfl) (pe_lst (pa_cons (pe_ix ix_tup (pv 0) pe_int (fun _ _ => rfl)) (pa_cons (pe_call GP hr2 (by rfl) gP kP bP .nil pass0 (pa_cons (pe_ix ix_tup (pv 0) pe_int (fun _ _ => rfl)) pa_nil)) pa_nil)))) (pss_cons (ps_if (pt_cmpR op_eq (pe_ix ix_tup (pv 0) pe_int (fun _ _ => rfl)) pe_str (nomark _)) (pss_one (ps_expr (pe_bm PySem.F.plainAttrs_list PySem.F.slot_list_append PySem.F.type_list_append mt_append (pv 1) (pa_cons (pe_call GL hr1 (by rfl) gL kL bL .nil pass0 (pa_cons (pe_ix ix_tup (pv 0) pe_int (fun _ _ => rfl)) pa_nil)) pa_nil)))) pss_nil) (pss_cons (ps_if (pt_cmpR op_eq (pe_ix ix_tup (pv 0) pe_int (fun _ _ => rfl)) pe_str (nomark _)) (pss_one (ps_expr (pe_bm PySem.F.plainAttrs_list PySem.F.slot_list_append PySem.F.type_list_append mt_append (pv 1) (pa_cons (pe_op op_add_str pe_str (pe_callTy (call_str_dig rfl hD) (by rfl) Z.str (by decide +kernel) (pa_cons (pe_ix ix_tup (pv 0) pe_int (fun _ _ => rfl)) pa_nil))) pa_nil)))) pss_nil) (pss_cons (ps_if (pt_cmpR op_eq (pe_ix ix_tup (pv 0) pe_int (fun _ _ => rfl)) pe_str (nomark _)) (pss_one (ps_expr (pe_bm PySem.F.plainAttrs_list PySem.F.slot_list_extend PySem.F.type_list_extend mt_extend (pv 1) (pa_cons (pe_lst (pa_cons (pe_callTy (call_str_dig rfl hD) (by rfl) Z.str (by decide +kernel) (pa_cons (pe_ix ix_tup (pv 0) pe_int (fun _ _ => rfl)) pa_nil)) (pa_cons (pe_op op_add_str pe_str (pe_callTy (call_str_dig rfl hD) (by rfl) Z.str (by decide +kernel) (pa_cons (pe_ix ix_tup (pv 0) pe_int (fun _ _ => rfl)) pa_nil))) (pa_cons (pe_call GR hr (by rfl) gR kR bR .nil pass0 (pa_cons (pe_ix ix_tup (pv 0) pe_int (fun _ _ => rfl)) (pa_cons pe_bl pa_nil))) pa_nil)))) pa_nil)))) pss_nil) (pss_cons (ps_if (pt_cmpR op_eq (pe_ix ix_tup (pv 0) pe_int (fun _ _ => rfl)) pe_str (nomark _)) (pss_one (ps_expr (pe_bm PySem.F.plainAttrs_list PySem.F.slot_list_extend PySem.F.type_list_extend mt_extend (pv 1) (pa_cons (pe_lst (pa_cons (pe_op op_add_str pe_str (pe_callTy (call_str_dig rfl hD) (by rfl) Z.str (by decide +kernel) (pa_cons (pe_ix ix_tup (pv 0) pe_int (fun _ _ => rfl)) pa_nil))) (pa_cons (pe_call GP hr2 (by rfl) gP kP bP .nil pass0 (pa_cons (pe_ix ix_tup (pv 0) pe_int (fun _ _ => rfl)) pa_nil)) (pa_cons (pe_callTy (call_str_dig rfl hD) (by rfl) Z.str (by decide +kernel) (pa_cons (pe_ix ix_tup (pv 0) pe_int (fun _ _ => rfl)) pa_nil)) pa_nil)))) pa_nil)))) pss_nil) (pss_one (ps_ret (pe_bm (T := "str") PySem.F.plainAttrs_str PySem.F.slot_str_join PySem.F.type_str_join mt_join pe_str (pa_cons (pv 1) pa_nil))))))))), ?_⟩
    have js := joinL_sum (sep := [32]) (stepWords d)
    have jm : ∀ a ∈ stepWords d, a.length ≤ most := fun a ha => by
      have := joinL_mem (sep := [32]) ha
      rw [← pStep_join fine] at this
      omega
    rw [← pStep_join fine, List.length_singleton] at js
    cases rv with
    | int _ => cases fine
    | str _ => cases fine
    | tup ht rs =>
      rename_i t vs ds
      have nt : ∀ {G : Hp} {b : Addr} {us : List V} {o : HO}, G t = some (.tup us) → G b = none → b ≠ t := fun h n => by
        rintro rfl
        rw [h] at n
        cases n
      have l1 : (Str.ofString "#").length = 1 := by decide +kernel
      have big : ∀ i : Int, (pI i).length ≤ 1001 → i.natAbs < 10 ^ 4300 := fun i h => Nat.lt_of_lt_of_le (pI_lt h) (Nat.pow_le_pow_right (by decide) (by decide))
      have hashed : ∀ i : Int, cp (Str.ofString "#" ++ Str.ofString (toString i)) = 35 :: pI i := fun i => by
        rw [cp_app, cp_lit1, str_int]
        rfl
      have fits : ∀ i : Int, (pI i).length ≤ 1001 → (Str.ofString "#").length + (Str.ofString (toString i)).length ≤ sizeLine := fun i h => by
        have h2 : (Str.ofString (toString i)).length = (pI i).length := by rw [← cp_len, str_int]
        exact Nat.le_trans (show _ ≤ 1002 by omega) (by decide)
      have fin : ∀ ys : List Str, ys.map cp = stepWords (.tup ds) → (ys.map (·.length)).sum + ys.length * (Str.ofString " ").length ≤ 16777216 ∧ cp (Txt.join (Str.ofString " ") ys) = pStep (.tup ds) := fun ys ey => by
        have h1 : (Str.ofString " ").length = 1 := by decide +kernel
        have hn : ys.length = (stepWords (.tup ds)).length := by
          rw [← ey, List.length_map]
        refine ⟨?_, ?_⟩
        · rw [lens, ey, h1, hn]
          exact Nat.le_trans (show _ ≤ most + 1 by omega) (by decide)
        · rw [join_cp, cp_blank, ey, ← pStep_join fine]
      clear js
      cases fine with
      | set p v pf av iv =>
        cases rs with | cons r0 rs => cases rs with | cons r1 rs =>
        obtain ⟨y0, rfl, hy0⟩ := r0.strI
        have sw : stepWords (.tup [.str (txt "set"), p, v]) = [txt "set", pPlace p, pLit v] := by simp [stepWords]
        rw [sw] at jm fin
        refine ⟨_, rfl, t, _, 0, _, rfl, rfl, SqT.of ht, atI_nat (j := 0) rfl, _, rfl, t, _, 1, _, rfl, rfl, SqT.of ht, atI_nat (j := 1) rfl, _, _, rfl, r1, pf, jm _ (by simp), fun H1 y1 sm1 hy1 => ⟨(by show 2 ≤ _; decide), fun b hb => ?_⟩⟩
        have smb : Same H (upd H1 b (.lst [.str y0, .str y1])) := sm1.trans (same_upd hb)
        have hB : upd H1 b (.lst [.str y0, .str y1]) b = some (.lst [.str y0, .str y1]) := upd_same
        have ht1 := smb _ _ ht
        have nb : H b = none := by
          cases z : H b with
          | none => rfl
          | some o => rw [sm1 _ _ z] at hb; cases hb
        have rs1 := RepL.keep (TupK.same smb) (RepL.cons r0 (RepL.cons r1 rs))
        generalize upd H1 b (.lst [.str y0, .str y1]) = H2 at smb hB ht1 rs1 ⊢
        clear r0 r1 rs ht hb sm1
        cases rs1 with | cons _ rs1 => cases rs1 with | cons r1 rs1 => cases rs1 with | cons r2 rs1 =>
        cases rs1
        refine ⟨_, rfl, t, _, 0, _, rfl, rfl, SqT.of ht1, atI_nat (j := 0) rfl, rfl, _, rfl, ?_⟩
        rw [dec_str, hy0, cp_set, decide_eq_true rfl]
        refine iteT ?_
        refine ⟨_, rfl, .inl ⟨rfl, _, SqL.of hB⟩, _, rfl, t, _, 2, _, rfl, rfl, SqT.of ht1, atI_nat (j := 2) rfl, _, v, rfl, r2, ⟨av, intsOk_int iv⟩, jm _ (by simp), fun H3 y2 sm2 hy2 => ?_⟩
        refine ⟨b, _, _, rfl, rfl, sm2 _ _ hB, (by show 2 < _; decide), ?_⟩
        have ey : [y0, y1, y2].map cp = [txt "set", pPlace p, pLit v] := by
          simp only [List.map_cons, List.map_nil, hy0, hy1, hy2]
        have hL : upd H3 b (.lst ([.str y0, .str y1] ++ [.str y2])) b = some (.lst ([y0, y1, y2].map V.str)) := upd_same
        have sm3 : Same H (upd H3 b (.lst ([.str y0, .str y1] ++ [.str y2]))) := fun a o e => by
          rw [upd_ne (ne_of_none e nb)]
          exact sm2 _ _ (smb _ _ e)
        have ht3 : upd H3 b (.lst ([.str y0, .str y1] ++ [.str y2])) t = some _ := (upd_ne (fun z => by rw [z, hB] at ht1; exact nomatch ht1)).trans (sm2 _ _ ht1)
        generalize upd H3 b (.lst ([.str y0, .str y1] ++ [.str y2])) = H9 at hL sm3 ht3 ⊢
        refine ⟨_, rfl, t, _, 0, _, rfl, rfl, SqT.of ht3, atI_nat (j := 0) rfl, rfl, _, rfl, ?_⟩
        rw [dec_str, hy0, cp_take, decide_eq_false (show ¬ txt "set" = txt "take" by decide +kernel)]
        refine iteF ?_
        refine ⟨_, rfl, t, _, 0, _, rfl, rfl, SqT.of ht3, atI_nat (j := 0) rfl, rfl, _, rfl, ?_⟩
        rw [dec_str, hy0, cp_put, decide_eq_false (show ¬ txt "set" = txt "put" by decide +kernel)]
        refine iteF ?_
        refine ⟨_, rfl, t, _, 0, _, rfl, rfl, SqT.of ht3, atI_nat (j := 0) rfl, rfl, _, rfl, ?_⟩
        rw [dec_str, hy0, cp_carry, decide_eq_false (show ¬ txt "set" = txt "carry" by decide +kernel)]
        refine iteF ?_
        exact ⟨rfl, .ref b, rfl, _, b, [y0, y1, y2], rfl, rfl, .inl (SqL.of hL), (fin [y0, y1, y2] ey).1, q _ _ sm3 (fin [y0, y1, y2] ey).2⟩
      | take p n pf hn =>
        cases rs with | cons r0 rs => cases rs with | cons r1 rs =>
        obtain ⟨y0, rfl, hy0⟩ := r0.strI
        have sw : stepWords (.tup [.str (txt "take"), p, .int (n : Int)]) = [txt "take", pPlace p, 35 :: pNo (.int (n : Int))] := by simp [stepWords, show ¬ txt "take" = txt "set" by decide +kernel]
        rw [sw] at jm fin
        refine ⟨_, rfl, t, _, 0, _, rfl, rfl, SqT.of ht, atI_nat (j := 0) rfl, _, rfl, t, _, 1, _, rfl, rfl, SqT.of ht, atI_nat (j := 1) rfl, _, _, rfl, r1, pf, jm _ (by simp), fun H1 y1 sm1 hy1 => ⟨(by show 2 ≤ _; decide), fun b hb => ?_⟩⟩
        have smb : Same H (upd H1 b (.lst [.str y0, .str y1])) := sm1.trans (same_upd hb)
        have hB : upd H1 b (.lst [.str y0, .str y1]) b = some (.lst [.str y0, .str y1]) := upd_same
        have ht1 := smb _ _ ht
        have nb : H b = none := by
          cases z : H b with
          | none => rfl
          | some o => rw [sm1 _ _ z] at hb; cases hb
        have rs1 := RepL.keep (TupK.same smb) (RepL.cons r0 (RepL.cons r1 rs))
        generalize upd H1 b (.lst [.str y0, .str y1]) = H2 at smb hB ht1 rs1 ⊢
        clear r0 r1 rs ht hb sm1
        cases rs1 with | cons _ rs1 => cases rs1 with | cons r1 rs1 => cases rs1 with | cons r2 rs1 =>
        cases rs1
        refine ⟨_, rfl, t, _, 0, _, rfl, rfl, SqT.of ht1, atI_nat (j := 0) rfl, rfl, _, rfl, ?_⟩
        rw [dec_str, hy0, cp_set, decide_eq_false (show ¬ txt "take" = txt "set" by decide +kernel)]
        refine iteF ?_
        refine ⟨_, rfl, t, _, 0, _, rfl, rfl, SqT.of ht1, atI_nat (j := 0) rfl, rfl, _, rfl, ?_⟩
        rw [dec_str, hy0, cp_take, decide_eq_true rfl]
        refine iteT ?_
        have e2 := r2.intI
        subst e2
        refine ⟨_, rfl, .inl ⟨rfl, _, SqL.of hB⟩, _, rfl, t, _, 2, _, rfl, rfl, SqT.of ht1, atI_nat (j := 2) rfl, (n : Int), rfl, big _ hn, _, _, rfl, rfl, fits _ hn, ?_⟩
        refine ⟨b, _, _, rfl, rfl, hB, (by show 2 < _; decide), ?_⟩
        have ey : [y0, y1, Str.ofString "#" ++ Str.ofString (toString (n : Int))].map cp = [txt "take", pPlace p, 35 :: pNo (.int (n : Int))] := by
          simp only [List.map_cons, List.map_nil, hy0, hy1, hashed (n : Int)]
          rfl
        have hL : upd H2 b (.lst ([.str y0, .str y1] ++ [.str (Str.ofString "#" ++ Str.ofString (toString (n : Int)))])) b = some (.lst ([y0, y1, Str.ofString "#" ++ Str.ofString (toString (n : Int))].map V.str)) := upd_same
        have sm3 : Same H (upd H2 b (.lst ([.str y0, .str y1] ++ [.str (Str.ofString "#" ++ Str.ofString (toString (n : Int)))]))) := fun a o e => by
          rw [upd_ne (ne_of_none e nb)]
          exact smb _ _ e
        have ht3 : upd H2 b (.lst ([.str y0, .str y1] ++ [.str (Str.ofString "#" ++ Str.ofString (toString (n : Int)))])) t = some _ := (upd_ne (fun z => by rw [z, hB] at ht1; exact nomatch ht1)).trans ht1
        generalize upd H2 b (.lst ([.str y0, .str y1] ++ [.str (Str.ofString "#" ++ Str.ofString (toString (n : Int)))])) = H9 at hL sm3 ht3 ⊢
        refine ⟨_, rfl, t, _, 0, _, rfl, rfl, SqT.of ht3, atI_nat (j := 0) rfl, rfl, _, rfl, ?_⟩
        rw [dec_str, hy0, cp_put, decide_eq_false (show ¬ txt "take" = txt "put" by decide +kernel)]
        refine iteF ?_
        refine ⟨_, rfl, t, _, 0, _, rfl, rfl, SqT.of ht3, atI_nat (j := 0) rfl, rfl, _, rfl, ?_⟩
        rw [dec_str, hy0, cp_carry, decide_eq_false (show ¬ txt "take" = txt "carry" by decide +kernel)]
        refine iteF ?_
        exact ⟨rfl, .ref b, rfl, _, b, [y0, y1, Str.ofString "#" ++ Str.ofString (toString (n : Int))], rfl, rfl, .inl (SqL.of hL), (fin [y0, y1, Str.ofString "#" ++ Str.ofString (toString (n : Int))] ey).1, q _ _ sm3 (fin [y0, y1, Str.ofString "#" ++ Str.ofString (toString (n : Int))] ey).2⟩
      | put p i s es pf hi hs ok io =>
        cases rs with | cons r0 rs => cases rs with | cons r1 rs =>
        obtain ⟨y0, rfl, hy0⟩ := r0.strI
        have sw : stepWords (.tup [.str (txt "put"), p, .int (i : Int), .int (s : Int), .tup es]) = [txt "put", pPlace p, pNo (.int (i : Int)), 35 :: pNo (.int (s : Int)), pRec es] := by simp [stepWords]
        rw [sw] at jm fin
        refine ⟨_, rfl, t, _, 0, _, rfl, rfl, SqT.of ht, atI_nat (j := 0) rfl, _, rfl, t, _, 1, _, rfl, rfl, SqT.of ht, atI_nat (j := 1) rfl, _, _, rfl, r1, pf, jm _ (by simp), fun H1 y1 sm1 hy1 => ⟨(by show 2 ≤ _; decide), fun b hb => ?_⟩⟩
        have smb : Same H (upd H1 b (.lst [.str y0, .str y1])) := sm1.trans (same_upd hb)
        have hB : upd H1 b (.lst [.str y0, .str y1]) b = some (.lst [.str y0, .str y1]) := upd_same
        have ht1 := smb _ _ ht
        have nb : H b = none := by
          cases z : H b with
          | none => rfl
          | some o => rw [sm1 _ _ z] at hb; cases hb
        have rs1 := RepL.keep (TupK.same smb) (RepL.cons r0 (RepL.cons r1 rs))
        generalize upd H1 b (.lst [.str y0, .str y1]) = H2 at smb hB ht1 rs1 ⊢
        clear r0 r1 rs ht hb sm1
        cases rs1 with | cons _ rs1 => cases rs1 with | cons r1 rs1 => cases rs1 with | cons r2 rs1 => cases rs1 with | cons r3 rs1 => cases rs1 with | cons r4 rs1 =>
        cases rs1
        refine ⟨_, rfl, t, _, 0, _, rfl, rfl, SqT.of ht1, atI_nat (j := 0) rfl, rfl, _, rfl, ?_⟩
        rw [dec_str, hy0, cp_set, decide_eq_false (show ¬ txt "put" = txt "set" by decide +kernel)]
        refine iteF ?_
        refine ⟨_, rfl, t, _, 0, _, rfl, rfl, SqT.of ht1, atI_nat (j := 0) rfl, rfl, _, rfl, ?_⟩
        rw [dec_str, hy0, cp_take, decide_eq_false (show ¬ txt "put" = txt "take" by decide +kernel)]
        refine iteF ?_
        refine ⟨_, rfl, t, _, 0, _, rfl, rfl, SqT.of ht1, atI_nat (j := 0) rfl, rfl, _, rfl, ?_⟩
        rw [dec_str, hy0, cp_put, decide_eq_true rfl]
        refine iteT ?_
        have e2 := r2.intI
        subst e2
        have e3 := r3.intI
        subst e3
        refine ⟨_, rfl, .inl ⟨rfl, _, SqL.of hB⟩, _, rfl, t, _, 2, _, rfl, rfl, SqT.of ht1, atI_nat (j := 2) rfl, (i : Int), rfl, big _ hi, _, rfl, t, _, 3, _, rfl, rfl, SqT.of ht1, atI_nat (j := 3) rfl, (s : Int), rfl, big _ hs, _, _, rfl, rfl, fits _ hs, _, rfl, t, _, 4, _, rfl, rfl, SqT.of ht1, atI_nat (j := 4) rfl, _, es, rfl, r4, ok, io, jm _ (by simp), fun H3 y2 sm2 hy2 => ⟨(by show 3 ≤ _; decide), fun c hc => ?_⟩⟩
        have sm4 : Same H3 (upd H3 c (.lst [.str (Str.ofString (toString (i : Int))), .str (Str.ofString "#" ++ Str.ofString (toString (s : Int))), .str y2])) := same_upd hc
        have hc4 : upd H3 c (.lst [.str (Str.ofString (toString (i : Int))), .str (Str.ofString "#" ++ Str.ofString (toString (s : Int))), .str y2]) c = some (.lst _) := upd_same
        generalize upd H3 c (.lst [.str (Str.ofString (toString (i : Int))), .str (Str.ofString "#" ++ Str.ofString (toString (s : Int))), .str y2]) = H4 at sm4 hc4 ⊢
        refine ⟨b, c, _, _, rfl, rfl, sm4 _ _ (sm2 _ _ hB), hc4, (by show 5 ≤ _; decide), ?_⟩
        have ey : [y0, y1, Str.ofString (toString (i : Int)), Str.ofString "#" ++ Str.ofString (toString (s : Int)), y2].map cp = [txt "put", pPlace p, pNo (.int (i : Int)), 35 :: pNo (.int (s : Int)), pRec es] := by
          simp only [List.map_cons, List.map_nil, hy0, hy1, str_int (i : Int), hashed (s : Int), hy2]
          try rfl
        have hL : upd H4 b (.lst ([.str y0, .str y1] ++ [.str (Str.ofString (toString (i : Int))), .str (Str.ofString "#" ++ Str.ofString (toString (s : Int))), .str y2])) b = some (.lst ([y0, y1, Str.ofString (toString (i : Int)), Str.ofString "#" ++ Str.ofString (toString (s : Int)), y2].map V.str)) := upd_same
        have sm3 : Same H (upd H4 b (.lst ([.str y0, .str y1] ++ [.str (Str.ofString (toString (i : Int))), .str (Str.ofString "#" ++ Str.ofString (toString (s : Int))), .str y2]))) := fun a o e => by
          rw [upd_ne (ne_of_none e nb)]
          exact sm4 _ _ (sm2 _ _ (smb _ _ e))
        have ht3 : upd H4 b (.lst ([.str y0, .str y1] ++ [.str (Str.ofString (toString (i : Int))), .str (Str.ofString "#" ++ Str.ofString (toString (s : Int))), .str y2])) t = some _ := (upd_ne (fun z => by rw [z, hB] at ht1; exact nomatch ht1)).trans (sm4 _ _ (sm2 _ _ ht1))
        generalize upd H4 b (.lst ([.str y0, .str y1] ++ [.str (Str.ofString (toString (i : Int))), .str (Str.ofString "#" ++ Str.ofString (toString (s : Int))), .str y2])) = H9 at hL sm3 ht3 ⊢
        refine ⟨_, rfl, t, _, 0, _, rfl, rfl, SqT.of ht3, atI_nat (j := 0) rfl, rfl, _, rfl, ?_⟩
        rw [dec_str, hy0, cp_carry, decide_eq_false (show ¬ txt "put" = txt "carry" by decide +kernel)]
        refine iteF ?_
        exact ⟨rfl, .ref b, rfl, _, b, [y0, y1, Str.ofString (toString (i : Int)), Str.ofString "#" ++ Str.ofString (toString (s : Int)), y2], rfl, rfl, .inl (SqL.of hL), (fin [y0, y1, Str.ofString (toString (i : Int)), Str.ofString "#" ++ Str.ofString (toString (s : Int)), y2] ey).1, q _ _ sm3 (fin [y0, y1, Str.ofString (toString (i : Int)), Str.ofString "#" ++ Str.ofString (toString (s : Int)), y2] ey).2⟩
      | carry p o s i pf po hs hi =>
        cases rs with | cons r0 rs => cases rs with | cons r1 rs =>
        obtain ⟨y0, rfl, hy0⟩ := r0.strI
        have sw : stepWords (.tup [.str (txt "carry"), p, .int (s : Int), o, .int (i : Int)]) = [txt "carry", pPlace p, 35 :: pNo (.int (s : Int)), pPlace o, pNo (.int (i : Int))] := by simp [stepWords, show ¬ txt "carry" = txt "put" by decide +kernel]
        rw [sw] at jm fin
        refine ⟨_, rfl, t, _, 0, _, rfl, rfl, SqT.of ht, atI_nat (j := 0) rfl, _, rfl, t, _, 1, _, rfl, rfl, SqT.of ht, atI_nat (j := 1) rfl, _, _, rfl, r1, pf, jm _ (by simp), fun H1 y1 sm1 hy1 => ⟨(by show 2 ≤ _; decide), fun b hb => ?_⟩⟩
        have smb : Same H (upd H1 b (.lst [.str y0, .str y1])) := sm1.trans (same_upd hb)
        have hB : upd H1 b (.lst [.str y0, .str y1]) b = some (.lst [.str y0, .str y1]) := upd_same
        have ht1 := smb _ _ ht
        have nb : H b = none := by
          cases z : H b with
          | none => rfl
          | some o => rw [sm1 _ _ z] at hb; cases hb
        have rs1 := RepL.keep (TupK.same smb) (RepL.cons r0 (RepL.cons r1 rs))
        generalize upd H1 b (.lst [.str y0, .str y1]) = H2 at smb hB ht1 rs1 ⊢
        clear r0 r1 rs ht hb sm1
        cases rs1 with | cons _ rs1 => cases rs1 with | cons r1 rs1 => cases rs1 with | cons r2 rs1 => cases rs1 with | cons r3 rs1 => cases rs1 with | cons r4 rs1 =>
        cases rs1
        refine ⟨_, rfl, t, _, 0, _, rfl, rfl, SqT.of ht1, atI_nat (j := 0) rfl, rfl, _, rfl, ?_⟩
        rw [dec_str, hy0, cp_set, decide_eq_false (show ¬ txt "carry" = txt "set" by decide +kernel)]
        refine iteF ?_
        refine ⟨_, rfl, t, _, 0, _, rfl, rfl, SqT.of ht1, atI_nat (j := 0) rfl, rfl, _, rfl, ?_⟩
        rw [dec_str, hy0, cp_take, decide_eq_false (show ¬ txt "carry" = txt "take" by decide +kernel)]
        refine iteF ?_
        refine ⟨_, rfl, t, _, 0, _, rfl, rfl, SqT.of ht1, atI_nat (j := 0) rfl, rfl, _, rfl, ?_⟩
        rw [dec_str, hy0, cp_put, decide_eq_false (show ¬ txt "carry" = txt "put" by decide +kernel)]
        refine iteF ?_
        refine ⟨_, rfl, t, _, 0, _, rfl, rfl, SqT.of ht1, atI_nat (j := 0) rfl, rfl, _, rfl, ?_⟩
        rw [dec_str, hy0, cp_carry, decide_eq_true rfl]
        refine iteT ?_
        have e2 := r2.intI
        subst e2
        have e4 := r4.intI
        subst e4
        refine ⟨_, rfl, .inl ⟨rfl, _, SqL.of hB⟩, _, rfl, t, _, 2, _, rfl, rfl, SqT.of ht1, atI_nat (j := 2) rfl, (s : Int), rfl, big _ hs, _, _, rfl, rfl, fits _ hs, _, rfl, t, _, 3, _, rfl, rfl, SqT.of ht1, atI_nat (j := 3) rfl, _, o, rfl, r3, po, jm _ (by simp), fun H3 y2 sm2 hy2 => ?_⟩
        refine ⟨_, rfl, t, _, 4, _, rfl, rfl, SqT.of (sm2 _ _ ht1), atI_nat (j := 4) rfl, (i : Int), rfl, big _ hi, (by show 3 ≤ _; decide), fun c hc => ?_⟩
        have sm4 : Same H3 (upd H3 c (.lst [.str (Str.ofString "#" ++ Str.ofString (toString (s : Int))), .str y2, .str (Str.ofString (toString (i : Int)))])) := same_upd hc
        have hc4 : upd H3 c (.lst [.str (Str.ofString "#" ++ Str.ofString (toString (s : Int))), .str y2, .str (Str.ofString (toString (i : Int)))]) c = some (.lst _) := upd_same
        generalize upd H3 c (.lst [.str (Str.ofString "#" ++ Str.ofString (toString (s : Int))), .str y2, .str (Str.ofString (toString (i : Int)))]) = H4 at sm4 hc4 ⊢
        refine ⟨b, c, _, _, rfl, rfl, sm4 _ _ (sm2 _ _ hB), hc4, (by show 5 ≤ _; decide), ?_⟩
        have ey : [y0, y1, Str.ofString "#" ++ Str.ofString (toString (s : Int)), y2, Str.ofString (toString (i : Int))].map cp = [txt "carry", pPlace p, 35 :: pNo (.int (s : Int)), pPlace o, pNo (.int (i : Int))] := by
          simp only [List.map_cons, List.map_nil, hy0, hy1, str_int (i : Int), hashed (s : Int), hy2]
          try rfl
        have hL : upd H4 b (.lst ([.str y0, .str y1] ++ [.str (Str.ofString "#" ++ Str.ofString (toString (s : Int))), .str y2, .str (Str.ofString (toString (i : Int)))])) b = some (.lst ([y0, y1, Str.ofString "#" ++ Str.ofString (toString (s : Int)), y2, Str.ofString (toString (i : Int))].map V.str)) := upd_same
        have sm3 : Same H (upd H4 b (.lst ([.str y0, .str y1] ++ [.str (Str.ofString "#" ++ Str.ofString (toString (s : Int))), .str y2, .str (Str.ofString (toString (i : Int)))]))) := fun a o e => by
          rw [upd_ne (ne_of_none e nb)]
          exact sm4 _ _ (sm2 _ _ (smb _ _ e))
        have ht3 : upd H4 b (.lst ([.str y0, .str y1] ++ [.str (Str.ofString "#" ++ Str.ofString (toString (s : Int))), .str y2, .str (Str.ofString (toString (i : Int)))])) t = some _ := (upd_ne (fun z => by rw [z, hB] at ht1; exact nomatch ht1)).trans (sm4 _ _ (sm2 _ _ ht1))
        generalize upd H4 b (.lst ([.str y0, .str y1] ++ [.str (Str.ofString "#" ++ Str.ofString (toString (s : Int))), .str y2, .str (Str.ofString (toString (i : Int)))])) = H9 at hL sm3 ht3 ⊢
        exact ⟨rfl, .ref b, rfl, _, b, [y0, y1, Str.ofString "#" ++ Str.ofString (toString (s : Int)), y2, Str.ofString (toString (i : Int))], rfl, rfl, .inl (SqL.of hL), (fin [y0, y1, Str.ofString "#" ++ Str.ofString (toString (s : Int)), y2, Str.ofString (toString (i : Int))] ey).1, q _ _ sm3 (fin [y0, y1, Str.ofString "#" ++ Str.ofString (toString (s : Int)), y2, Str.ofString (toString (i : Int))] ey).2⟩
end
end K9

set_option maxHeartbeats 400000
/-! The law's own texts of edits, plans. -/
namespace K9
open PySem PySem.Spec PyProof.Rows L2 K2

theorem pEdit_join : ∀ {ds : List D}, ds ≠ [] → pEdit ds = joinL [59, 32] (ds.map pStep)
  | [], h => absurd rfl h
  | d :: r, _ => by
    rw [List.map_cons, joinL_cons, pEdit]
    congr 1
    induction r with
    | nil => rfl
    | cons e t ih =>
      rw [pEMore, ih (fun z => nomatch z), List.map_cons, List.map_cons, List.flatten_cons]
      rfl
theorem pPlan_join : ∀ {ds : List D}, ds ≠ [] → pPlan ds = joinL [59, 32] (ds.map pDeed)
  | [], h => absurd rfl h
  | d :: r, _ => by
    rw [List.map_cons, joinL_cons, pPlan]
    congr 1
    induction r with
    | nil => rfl
    | cons e t ih =>
      rw [pPMore, ih (fun z => nomatch z), List.map_cons, List.map_cons, List.flatten_cons]
      rfl
theorem cp_dash' : cp (Str.ofString "-") = [45] := by decide +kernel
theorem scEditT : FnScope ["_law_made_of", "_law_step"] ["_law_made_of"] (defScope sEditT) := ⟨rfl, rfl, rfl, by decide +kernel, rfl, by decide +kernel, by decide +kernel⟩
theorem scPlanT : FnScope ["_law_made_of", "_law_deed"] ["_law_made_of"] (defScope sPlanT) := ⟨rfl, rfl, rfl, by decide +kernel, rfl, by decide +kernel, by decide +kernel⟩
def spAllT (pr : List D → List Nat) (ok : D → Prop) : Sp := fun vs H Q _ => ∃ v ds, vs = [v] ∧ Rep H v (.tup ds) ∧ (∀ d ∈ ds, ok d ∧ (dat d).canLay0 = true) ∧ (pr ds).length ≤ most ∧ ∀ H' y, Same H H' → cp y = pr ds → Q (.str y) H'
section
variable {P : Program} {w : World} {K : PySem.W.Frag} {mg : Str → Option Value} {base : Heap}
theorem ok_editT {k : Nat} {ok : D → Prop} {f fS : Addr} {fd fdS : FuncData} (F : Fun K "_law_edit_text" "_law_edit_text" sEditT f fd)
    (kS : PySem.W.keepIn K (.ref fS) = true) (bS : Binds K fdS ["_law_step"] []) (gS : mg "_law_step_text" = some (.ref fS)) (GS : FnOk P w K mg base CX0 k fS fdS ["_law_step"] (spTx pStep ok)) :
    FnOk P w K mg base CX0 (k + 1) f fd ["_law_made_of"] (spAllT pEdit ok) := by
  refine F.ok scEditT (fun vs H Q E h => ?_) (fun cdv A outer s H vs Q E hr h => ?_)
  · obtain ⟨v, d, rfl, _⟩ := h
    rfl
  · obtain ⟨v, ds, rfl, rv, fine, hl, q⟩ := h
    have hu : (A.deeper (envOfC (Str.ofString "_law_edit_text") (defScope sEditT) s.heap.objs.size f cdv)).units + 64 < cLine := by
      have := hr.un
      omega
    refine ⟨_, pss_one (ps_ret (pe_ifExp (pt_cmpR (op_neM hu) (pv 0) (pe_tup pa_nil) (nomark _))
      (pe_bm (T := "str") PySem.F.plainAttrs_str PySem.F.slot_str_join PySem.F.type_str_join mt_join pe_str (pa_cons
        (pe_lc (own := [("_law_step", 1)]) (g := gName 1) (tt := tYes) rfl scEditT.nd (pi_tup (pv 0))
            (blkOk_by (N := ["_law_made_of", "_law_step"]) (sc := defScope sEditT) (by decide +kernel))
            (fun _ _ _ _ _ => pg_name (i := 1) scEditT.nd rfl (Or.inl rfl)) (fun _ _ _ _ _ => pts_nil)
            (fun _ _ _ _ _ => pe_call GS hr (by rfl) gS kS bS .nil pass0 (pa_cons (pv 1) pa_nil))) pa_nil))
      pe_str)), ?_⟩
    cases rv with
    | tup ht rs =>
      rename_i t vs
      have vl := rs.len
      refine ⟨_, rfl, by show 0 ≤ _; decide, fun t0 h0 => ?_⟩
      have sm0 : Same H (upd H t0 (.tup [])) := same_upd h0
      have rs0 := rs.keep (TupK.same sm0)
      have ht0 := sm0 _ _ ht
      refine ⟨dat (.tup ds), .tuple [], (Rep.tup ht0 rs0).dp, .tup (SqT.of upd_same) .nil, lay_tup (fun d hd => (fine d hd).2), rfl, ?_, _, rfl, ?_⟩
      · refine Nat.le_trans (Nat.min_le_right _ _) ?_
        decide
      generalize upd H t0 (.tup []) = H1 at sm0 rs0 ht0
      cases hd0 : ds with
      | nil =>
        subst hd0
        exact iteF (q _ _ sm0 (by rw [cp_dash']; rfl))
      | cons d0 dr =>
        have hne : ds ≠ [] := by
          rw [hd0]
          exact fun z => nomatch z
        have js := joinL_sum (sep := [59, 32]) (ds.map pStep)
        rw [← pEdit_join hne, List.length_map] at js
        simp only [List.length_cons, List.length_nil] at js
        refine iteT ?_
        clear hd0
        refine ⟨rfl, .ref t, rfl, t, rfl, ⟨_, SqT.of ht0⟩, fun D nD => ?_⟩
        refine lc_it (walk_tup (K := K) (a := t) (xs := vs)) (fun i G => ∃ ys : List Str, ys.map cp = (ds.take i).map pStep ∧ G D = some (.lst (ys.map V.str)) ∧ Same H1 G) ⟨[], rfl, upd_same, same_upd nD⟩ (fun i G _ z => ?_) ?_ ?_
        · obtain ⟨ys, _, _, sm⟩ := z
          exact SqT.of (sm _ _ ht0)
        · rintro i x G G' hi ⟨ys, ey, hD, smG⟩ ⟨rfl, hx⟩
          have hi' : i < ds.length := by rw [← vl]; exact hi
          obtain ⟨d, hd⟩ : ∃ d, ds[i]? = some d := ⟨_, List.getElem?_eq_getElem hi'⟩
          obtain ⟨v, hv, rv⟩ := rs0.get hd
          obtain rfl : v = x := Option.some.inj (hv.symm.trans hx)
          have ll := joinL_mem (sep := [59, 32]) (List.mem_map_of_mem (f := pStep) (List.mem_of_getElem? hd))
          rw [← pEdit_join hne] at ll
          have yl : ys.length < sizeLine := by
            have := congrArg List.length ey
            rw [List.length_map, List.length_map, List.length_take] at this
            exact Nat.lt_of_le_of_lt (show ys.length ≤ most + 1 by omega) (by decide)
          refine ⟨rfl, _, rfl, v, d, rfl, rv.keep (TupK.same smG), (fine d (List.mem_of_getElem? hd)).1, Nat.le_trans ll hl, fun G2 y sm2 hy => ?_⟩
          refine ⟨_, sm2 _ _ hD, by rw [List.length_map]; exact yl, ys ++ [y], ?_, ?_, ?_⟩
          · rw [List.map_append, ey, List.take_add_one, hd, List.map_append]
            simp [hy]
          · rw [upd_same, List.map_append]
            rfl
          · exact fun b o hb => by
              rw [upd_ne (ne_of_none hb nD)]
              exact sm2 _ _ (smG _ _ hb)
        · rintro G ⟨ys, ey, hD, smG⟩
          rw [vl, List.take_length] at ey
          have e : cp (Txt.join (Str.ofString "; ") ys) = pEdit ds := by
            rw [join_cp, cp_par, ey, pEdit_join hne]
          refine ⟨_, D, ys, rfl, rfl, .inl (SqL.of hD), ?_, q _ _ (sm0.trans smG) e⟩
          have h1 : (Str.ofString "; ").length = 2 := by decide +kernel
          have e3 : ys.length = ds.length := by
            have := congrArg List.length ey
            rwa [List.length_map, List.length_map] at this
          rw [lens, ey, e3, h1]
          exact Nat.le_trans (show _ ≤ most + 2 by omega) (by decide)
theorem ok_planT {k : Nat} {ok : D → Prop} {f fS : Addr} {fd fdS : FuncData} (F : Fun K "_law_plan_text" "_law_plan_text" sPlanT f fd)
    (kS : PySem.W.keepIn K (.ref fS) = true) (bS : Binds K fdS ["_law_deed"] []) (gS : mg "_law_deed_text" = some (.ref fS)) (GS : FnOk P w K mg base CX0 k fS fdS ["_law_deed"] (spTx pDeed ok)) :
    FnOk P w K mg base CX0 (k + 1) f fd ["_law_made_of"] (spAllT pPlan ok) := by
  refine F.ok scPlanT (fun vs H Q E h => ?_) (fun cdv A outer s H vs Q E hr h => ?_)
  · obtain ⟨v, d, rfl, _⟩ := h
    rfl
  · obtain ⟨v, ds, rfl, rv, fine, hl, q⟩ := h
    have hu : (A.deeper (envOfC (Str.ofString "_law_plan_text") (defScope sPlanT) s.heap.objs.size f cdv)).units + 64 < cLine := by
      have := hr.un
      omega
    refine ⟨_, pss_one (ps_ret (pe_ifExp (pt_cmpR (op_neM hu) (pv 0) (pe_tup pa_nil) (nomark _))
      (pe_bm (T := "str") PySem.F.plainAttrs_str PySem.F.slot_str_join PySem.F.type_str_join mt_join pe_str (pa_cons
        (pe_lc (own := [("_law_deed", 1)]) (g := gName 1) (tt := tYes) rfl scPlanT.nd (pi_tup (pv 0))
            (blkOk_by (N := ["_law_made_of", "_law_deed"]) (sc := defScope sPlanT) (by decide +kernel))
            (fun _ _ _ _ _ => pg_name (i := 1) scPlanT.nd rfl (Or.inl rfl)) (fun _ _ _ _ _ => pts_nil)
            (fun _ _ _ _ _ => pe_call GS hr (by rfl) gS kS bS .nil pass0 (pa_cons (pv 1) pa_nil))) pa_nil))
      pe_str)), ?_⟩
    cases rv with
    | tup ht rs =>
      rename_i t vs
      have vl := rs.len
      refine ⟨_, rfl, by show 0 ≤ _; decide, fun t0 h0 => ?_⟩
      have sm0 : Same H (upd H t0 (.tup [])) := same_upd h0
      have rs0 := rs.keep (TupK.same sm0)
      have ht0 := sm0 _ _ ht
      refine ⟨dat (.tup ds), .tuple [], (Rep.tup ht0 rs0).dp, .tup (SqT.of upd_same) .nil, lay_tup (fun d hd => (fine d hd).2), rfl, ?_, _, rfl, ?_⟩
      · refine Nat.le_trans (Nat.min_le_right _ _) ?_
        decide
      generalize upd H t0 (.tup []) = H1 at sm0 rs0 ht0
      cases hd0 : ds with
      | nil =>
        subst hd0
        exact iteF (q _ _ sm0 (by rw [cp_dash']; rfl))
      | cons d0 dr =>
        have hne : ds ≠ [] := by
          rw [hd0]
          exact fun z => nomatch z
        have js := joinL_sum (sep := [59, 32]) (ds.map pDeed)
        rw [← pPlan_join hne, List.length_map] at js
        simp only [List.length_cons, List.length_nil] at js
        refine iteT ?_
        clear hd0
        refine ⟨rfl, .ref t, rfl, t, rfl, ⟨_, SqT.of ht0⟩, fun D nD => ?_⟩
        refine lc_it (walk_tup (K := K) (a := t) (xs := vs)) (fun i G => ∃ ys : List Str, ys.map cp = (ds.take i).map pDeed ∧ G D = some (.lst (ys.map V.str)) ∧ Same H1 G) ⟨[], rfl, upd_same, same_upd nD⟩ (fun i G _ z => ?_) ?_ ?_
        · obtain ⟨ys, _, _, sm⟩ := z
          exact SqT.of (sm _ _ ht0)
        · rintro i x G G' hi ⟨ys, ey, hD, smG⟩ ⟨rfl, hx⟩
          have hi' : i < ds.length := by rw [← vl]; exact hi
          obtain ⟨d, hd⟩ : ∃ d, ds[i]? = some d := ⟨_, List.getElem?_eq_getElem hi'⟩
          obtain ⟨v, hv, rv⟩ := rs0.get hd
          obtain rfl : v = x := Option.some.inj (hv.symm.trans hx)
          have ll := joinL_mem (sep := [59, 32]) (List.mem_map_of_mem (f := pDeed) (List.mem_of_getElem? hd))
          rw [← pPlan_join hne] at ll
          have yl : ys.length < sizeLine := by
            have := congrArg List.length ey
            rw [List.length_map, List.length_map, List.length_take] at this
            exact Nat.lt_of_le_of_lt (show ys.length ≤ most + 1 by omega) (by decide)
          refine ⟨rfl, _, rfl, v, d, rfl, rv.keep (TupK.same smG), (fine d (List.mem_of_getElem? hd)).1, Nat.le_trans ll hl, fun G2 y sm2 hy => ?_⟩
          refine ⟨_, sm2 _ _ hD, by rw [List.length_map]; exact yl, ys ++ [y], ?_, ?_, ?_⟩
          · rw [List.map_append, ey, List.take_add_one, hd, List.map_append]
            simp [hy]
          · rw [upd_same, List.map_append]
            rfl
          · exact fun b o hb => by
              rw [upd_ne (ne_of_none hb nD)]
              exact sm2 _ _ (smG _ _ hb)
        · rintro G ⟨ys, ey, hD, smG⟩
          rw [vl, List.take_length] at ey
          have e : cp (Txt.join (Str.ofString "; ") ys) = pPlan ds := by
            rw [join_cp, cp_par, ey, pPlan_join hne]
          refine ⟨_, D, ys, rfl, rfl, .inl (SqL.of hD), ?_, q _ _ (sm0.trans smG) e⟩
          have h1 : (Str.ofString "; ").length = 2 := by decide +kernel
          have e3 : ys.length = ds.length := by
            have := congrArg List.length ey
            rwa [List.length_map, List.length_map] at this
          rw [lens, ey, e3, h1]
          exact Nat.le_trans (show _ ≤ most + 2 by omega) (by decide)
end
end K9

set_option maxHeartbeats 400000
/-! Deeds that can be shown. -/
namespace K9
open PySem PySem.Spec PyProof.Rows L2 K2

def Ser (d : D) : Prop := ∃ i : Nat, d = .int i ∧ (pI i).length ≤ 1001
inductive DeedFine : D → Prop
  | order (f n : List Nat) (ds : List D) : Small f → Small n → (∀ d ∈ ds, Ser d) → DeedFine (.tup [.str (txt "order"), .str f, .str n, .tup ds])
  | gone (f o : List Nat) (p : List D) : Small f → Small o → (∀ e ∈ p, PtFine e) → DeedFine (.tup [.str (txt "gone"), .tup [.str f, .str o, .tup p]])
  | set (f o : List Nat) (p : List D) (v : D) : Small f → Small o → (∀ e ∈ p, PtFine e) → Atom v → intsOk v = true → LitOk v → DeedFine (.tup [.str (txt "set"), .tup [.str f, .str o, .tup p], v])
def rowWs : List D → List (List Nat)
  | [] => [[45]]
  | d :: r => (d :: r).map fun d => 35 :: pNo d
theorem pSMore_flat : ∀ ds : List D, pSMore ds = ((ds.map fun d => 35 :: pNo d).map fun p => [32] ++ p).flatten
  | [] => rfl
  | d :: r => by
    rw [pSMore, pSMore_flat r, List.map_cons, List.map_cons, List.flatten_cons]
    rfl
theorem pSers_join : ∀ ds : List D, pSers ds = joinL [32] (rowWs ds)
  | [] => rfl
  | d :: r => by
    rw [pSers, rowWs, List.map_cons, joinL_cons, ← pSMore_flat]
    rfl
def deedWords : D → List (List Nat)
  | .tup [.str w, s] => [w, pSpot s]
  | .tup [.str w, s, v] => [w, pSpot s, pLit v]
  | .tup [.str w, .str f, .str n, .tup ds] => [w, f ++ 47 :: n] ++ rowWs ds
  | _ => []
theorem rowWs_ne (ds : List D) : ∃ a r, rowWs ds = a :: r := by
  cases ds with
  | nil => exact ⟨_, _, rfl⟩
  | cons d r => exact ⟨_, _, rfl⟩
theorem pDeed_join {d : D} (h : DeedFine d) : pDeed d = joinL [32] (deedWords d) := by
  cases h with
  | order f n ds _ _ _ =>
    obtain ⟨a, r, e⟩ := rowWs_ne ds
    have ej := pSers_join ds
    rw [e] at ej
    rw [pDeed, deedWords, ej, e]
    simp [joinL]
  | gone f o p _ _ _ => simp [pDeed, deedWords, joinL]
  | set f o p v _ _ _ _ _ _ => simp [pDeed, deedWords, joinL]
theorem DeedFine.lay {d : D} (h : DeedFine d) : (dat d).canLay0 = true := by
  have pt : ∀ e, PtFine e → (dat e).canLay0 = true := fun e he => by
    cases e with
    | int i => exact lay_int i
    | str s => exact lay_str (he.2.2 s rfl)
    | tup _ => exact he.1.elim
  have sp : ∀ f o p, Small f → Small o → (∀ e ∈ p, PtFine e) → (dat (.tup [.str f, .str o, .tup p])).canLay0 = true := fun f o p hf ho hp => by
    refine lay_tup fun e he => ?_
    simp only [List.mem_cons, List.not_mem_nil, or_false] at he
    rcases he with rfl | rfl | rfl
    · exact lay_str hf
    · exact lay_str ho
    · exact lay_tup fun e he => pt e (hp e he)
  have tx : ∀ s : String, (txt s).all (fun c => decide (c < 128)) = true → (dat (.str (txt s))).canLay0 = true := fun s h => lay_str fun c hc => of_decide_eq_true (List.all_eq_true.mp h c hc)
  cases h with
  | order f n ds hf hn hs =>
    refine lay_tup fun e he => ?_
    simp only [List.mem_cons, List.not_mem_nil, or_false] at he
    rcases he with rfl | rfl | rfl | rfl
    · exact tx "order" (by decide +kernel)
    · exact lay_str hf
    · exact lay_str hn
    · refine lay_tup fun e he => ?_
      obtain ⟨i, rfl, _⟩ := hs e he
      exact lay_int _
  | gone f o p hf ho hp =>
    refine lay_tup fun e he => ?_
    simp only [List.mem_cons, List.not_mem_nil, or_false] at he
    rcases he with rfl | rfl
    · exact tx "gone" (by decide +kernel)
    · exact sp f o p hf ho hp
  | set f o p v hf ho hp av iv lv =>
    refine lay_tup fun e he => ?_
    simp only [List.mem_cons, List.not_mem_nil, or_false] at he
    rcases he with rfl | rfl | rfl
    · exact tx "set" (by decide +kernel)
    · exact sp f o p hf ho hp
    · cases e with
      | int i => exact lay_int i
      | str s => exact lay_str (lit_small lv)
      | tup _ => exact av.elim
theorem rSMore_fine : ∀ {n : Nat} {r r' : List Nat} {ds : List D}, rSMore n r = some (ds, r') → ∀ d ∈ ds, Ser d
  | 0, r, r', ds, h => by
    cases h
    exact fun d q => (List.not_mem_nil q).elim
  | n + 1, r, r', ds, h => by
    unfold rSMore at h
    split at h
    · obtain ⟨r1, h1, h⟩ := Option.bind_eq_some_iff.mp h
      obtain ⟨⟨i, r2⟩, h2, h⟩ := Option.bind_eq_some_iff.mp h
      obtain ⟨⟨es, r3⟩, h3, h4⟩ := Option.map_eq_some_iff.mp h
      cases h4
      intro d q
      rcases List.mem_cons.mp q with rfl | q
      · exact ⟨i, rfl, pI_nlen (rSer_len h2)⟩
      · exact rSMore_fine h3 d q
    · cases h
      exact fun d q => (List.not_mem_nil q).elim
theorem rSers_fine {r r' : List Nat} {ds : List D} (h : rSers r = some (ds, r')) : ∀ d ∈ ds, Ser d := by
  unfold rSers at h
  split at h
  · cases h
    exact fun d q => (List.not_mem_nil q).elim
  · obtain ⟨⟨i, r2⟩, h2, h⟩ := Option.bind_eq_some_iff.mp h
    obtain ⟨⟨es, r3⟩, h3, h4⟩ := Option.map_eq_some_iff.mp h
    cases h4
    intro d q
    rcases List.mem_cons.mp q with rfl | q
    · exact ⟨i, rfl, pI_nlen (rSer_len h2)⟩
    · exact rSMore_fine h3 d q
theorem rDeed_fine {r r' : List Nat} {d : D} (h : rDeed r = some (d, r')) : DeedFine d := by
  unfold rDeed at h
  obtain ⟨r1, h1, h⟩ := Option.bind_eq_some_iff.mp h
  split at h
  · obtain ⟨⟨f, r2⟩, h2, h⟩ := Option.bind_eq_some_iff.mp h
    obtain ⟨r3, h3, h⟩ := Option.bind_eq_some_iff.mp h
    obtain ⟨⟨n, r4⟩, h4, h⟩ := Option.bind_eq_some_iff.mp h
    obtain ⟨r5, h5, h⟩ := Option.bind_eq_some_iff.mp h
    obtain ⟨⟨x, r6⟩, h6, h7⟩ := Option.map_eq_some_iff.mp h
    cases h7
    exact .order f n x (rName_small h2) (rName_small h4) (rSers_fine h6)
  · split at h
    · obtain ⟨⟨s, r2⟩, h2, h3⟩ := Option.map_eq_some_iff.mp h
      cases h3
      obtain ⟨f, o, p, rfl, hf, ho, hp⟩ := rSpot_fine h2
      exact .gone f o p hf ho hp
    · split at h
      · obtain ⟨⟨s, r2⟩, h2, h⟩ := Option.bind_eq_some_iff.mp h
        obtain ⟨r3, h3, h⟩ := Option.bind_eq_some_iff.mp h
        obtain ⟨⟨v, r4⟩, h4, h5⟩ := Option.map_eq_some_iff.mp h
        cases h5
        obtain ⟨f, o, p, rfl, hf, ho, hp⟩ := rSpot_fine h2
        exact .set f o p v hf ho hp (rLit_fine h4).1 (rLit_fine h4).2 (rLit_some h4).2
      · cases h
theorem rPMore_fine : ∀ {n : Nat} {r r' : List Nat} {ds : List D}, rPMore n r = some (ds, r') → ∀ d ∈ ds, DeedFine d
  | 0, r, r', ds, h => by
    cases h
    exact fun d q => (List.not_mem_nil q).elim
  | n + 1, r, r', ds, h => by
    unfold rPMore at h
    split at h
    · cases h
      exact fun d q => (List.not_mem_nil q).elim
    · next r1 e =>
      obtain ⟨⟨d, r2⟩, h1, h2⟩ := Option.bind_eq_some_iff.mp h
      obtain ⟨⟨es, r3⟩, h3, h4⟩ := Option.map_eq_some_iff.mp h2
      cases h4
      intro e q
      rcases List.mem_cons.mp q with rfl | q
      · exact rDeed_fine h1
      · exact rPMore_fine h3 e q
theorem rPlan_fine {r : List Nat} {ds : List D} (h : rPlan r = some ds) : ∀ d ∈ ds, DeedFine d := by
  unfold rPlan at h
  split at h
  · split at h
    · cases h
      exact fun d q => (List.not_mem_nil q).elim
    · cases h
  · obtain ⟨⟨d, r2⟩, h1, h⟩ := Option.bind_eq_some_iff.mp h
    obtain ⟨⟨es, r3⟩, h2, h⟩ := Option.bind_eq_some_iff.mp h
    split at h
    · cases h
      intro e q
      rcases List.mem_cons.mp q with rfl | q
      · exact rDeed_fine h1
      · exact rPMore_fine h2 e q
    · cases h
/-! ### steps -/
theorem rPlace_lay {r r' : List Nat} {d : D} (h : rPlace r = some (d, r')) : PlFine d ∧ (dat d).canLay0 = true := by
  refine ⟨rPlace_fine h, ?_⟩
  unfold rPlace at h
  obtain ⟨⟨f, r1⟩, h1, h⟩ := Option.bind_eq_some_iff.mp h
  obtain ⟨r2, h2, h⟩ := Option.bind_eq_some_iff.mp h
  obtain ⟨⟨p, r3⟩, h3, h4⟩ := Option.map_eq_some_iff.mp h
  cases h4
  refine lay_tup fun e he => ?_
  simp only [List.mem_cons, List.not_mem_nil, or_false] at he
  rcases he with rfl | rfl
  · exact lay_str (rName_small h1)
  · refine lay_tup fun e he => ?_
    have := rPath_fine h3 e he
    cases e with
    | int i => exact lay_int i
    | str s => exact lay_str (this.2.2 s rfl)
    | tup _ => exact this.1.elim
theorem lay_lit {v : D} (a : Atom v) (l : LitOk v) : (dat v).canLay0 = true := by
  cases v with
  | int i => exact lay_int i
  | str s => exact lay_str (lit_small l)
  | tup _ => exact a.elim
theorem lay_txt {s : String} (h : (txt s).all (fun c => decide (c < 128)) = true) : (dat (.str (txt s))).canLay0 = true := lay_str fun c hc => of_decide_eq_true (List.all_eq_true.mp h c hc)
/-- a step that can be shown and laid -/
def StepGood (d : D) : Prop := StepFine d ∧ (dat d).canLay0 = true
theorem lay_list {L : List D} (h : ∀ d ∈ L, (dat d).canLay0 = true) : (dat (.tup L)).canLay0 = true := lay_tup h
theorem rStep_good {r r' : List Nat} {d : D} (h : rStep r = some (d, r')) : StepGood d := by
  unfold rStep at h
  obtain ⟨r1, h1, h⟩ := Option.bind_eq_some_iff.mp h
  obtain ⟨⟨p, r2⟩, h2, h⟩ := Option.bind_eq_some_iff.mp h
  obtain ⟨r3, h3, h⟩ := Option.bind_eq_some_iff.mp h
  obtain ⟨pf, pl⟩ := rPlace_lay h2
  have all : ∀ {L : List D}, L.all (fun d => (dat d).canLay0) = true → (dat (.tup L)).canLay0 = true := fun h => lay_tup fun d hd => List.all_eq_true.mp h d hd
  split at h
  · obtain ⟨⟨v, r4⟩, h4, h5⟩ := Option.map_eq_some_iff.mp h
    cases h5
    obtain ⟨av, iv⟩ := rLit_fine h4
    refine ⟨.set p v pf av iv, all ?_⟩
    simp [lay_txt (s := "set") (by decide +kernel), pl, lay_lit av (rLit_some h4).2]
  · split at h
    · obtain ⟨⟨n, r4⟩, h4, h5⟩ := Option.map_eq_some_iff.mp h
      cases h5
      refine ⟨.take p n pf (pI_nlen (rSer_len h4)), all ?_⟩
      simp [lay_txt (s := "take") (by decide +kernel), pl, lay_int]
    · split at h
      · obtain ⟨⟨i, r4⟩, h4, h⟩ := Option.bind_eq_some_iff.mp h
        obtain ⟨r5, h5, h⟩ := Option.bind_eq_some_iff.mp h
        obtain ⟨⟨s, r6⟩, h6, h⟩ := Option.bind_eq_some_iff.mp h
        obtain ⟨r7, h7, h⟩ := Option.bind_eq_some_iff.mp h
        obtain ⟨⟨x, r8⟩, h8, h9⟩ := Option.map_eq_some_iff.mp h
        cases h9
        have okr := (rRec_some h8).2
        refine ⟨.put p i s x pf (pI_nlen (rNum_len h4)) (pI_nlen (rSer_len h6)) okr (rRec_int h8), all ?_⟩
        simp [lay_txt (s := "put") (by decide +kernel), pl, lay_int, lay_tup (lay_rec okr)]
      · split at h
        · obtain ⟨⟨s, r4⟩, h4, h⟩ := Option.bind_eq_some_iff.mp h
          obtain ⟨r5, h5, h⟩ := Option.bind_eq_some_iff.mp h
          obtain ⟨⟨o, r6⟩, h6, h⟩ := Option.bind_eq_some_iff.mp h
          obtain ⟨r7, h7, h⟩ := Option.bind_eq_some_iff.mp h
          obtain ⟨⟨x, r8⟩, h8, h9⟩ := Option.map_eq_some_iff.mp h
          cases h9
          obtain ⟨of_, ol⟩ := rPlace_lay h6
          refine ⟨.carry p o s x pf of_ (pI_nlen (rSer_len h4)) (pI_nlen (rNum_len h8)), all ?_⟩
          simp [lay_txt (s := "carry") (by decide +kernel), pl, ol, lay_int]
        · cases h
theorem rEMore_good : ∀ {n : Nat} {r r' : List Nat} {ds : List D}, rEMore n r = some (ds, r') → ∀ d ∈ ds, StepGood d
  | 0, r, r', ds, h => by
    cases h
    exact fun d q => (List.not_mem_nil q).elim
  | n + 1, r, r', ds, h => by
    unfold rEMore at h
    split at h
    · cases h
      exact fun d q => (List.not_mem_nil q).elim
    · next r1 e =>
      obtain ⟨⟨d, r2⟩, h1, h2⟩ := Option.bind_eq_some_iff.mp h
      obtain ⟨⟨es, r3⟩, h3, h4⟩ := Option.map_eq_some_iff.mp h2
      cases h4
      intro e q
      rcases List.mem_cons.mp q with rfl | q
      · exact rStep_good h1
      · exact rEMore_good h3 e q
theorem rEdit_good {r : List Nat} {ds : List D} (h : rEdit r = some ds) : ∀ d ∈ ds, StepGood d := by
  unfold rEdit at h
  split at h
  · split at h
    · cases h
      exact fun d q => (List.not_mem_nil q).elim
    · cases h
  · obtain ⟨⟨d, r2⟩, h1, h⟩ := Option.bind_eq_some_iff.mp h
    obtain ⟨⟨es, r3⟩, h2, h⟩ := Option.bind_eq_some_iff.mp h
    split at h
    · cases h
      intro e q
      rcases List.mem_cons.mp q with rfl | q
      · exact rStep_good h1
      · exact rEMore_good h2 e q
    · cases h
end K9

set_option maxHeartbeats 400000
/-! The law's own texts of deeds. -/
namespace K9
open PySem PySem.Spec PyProof.Rows L2 K2

theorem scDeedT : FnScope ["_law_deed", "_law_rows", "_law_serial", "_law_file", "_law_owner", "_law_path", "_law_found", "_law_value"] ["_law_deed"] (defScope sDeedT) := ⟨rfl, rfl, rfl, by decide +kernel, rfl, by decide +kernel, by decide +kernel⟩
theorem dp_strs {K : PySem.W.Frag} {H : Hp} : ∀ ys : List Str, DpAll K H (ys.map V.str) (ys.map PyData.str)
  | [] => .nil
  | y :: r => .cons (.str y) (dp_strs r)
theorem lay_strs : ∀ {ys : List Str}, (∀ y ∈ ys, Small (cp y)) → PyData.canLayAll0 (ys.map PyData.str) = true
  | [], _ => rfl
  | y :: r, h => by
    rw [List.map_cons, PyData.canLayAll0, lay_strs fun z hz => h z (List.mem_cons_of_mem _ hz), Bool.and_true]
    rw [PyData.canLay0, str_of (rfl : cp y = cp y)]
    exact small_str (h y List.mem_cons_self)
theorem pI_small (i : Int) : Small (pI i) := fun c hc => by
  have hd : ∀ n : Nat, ∀ c ∈ pN n, c < 128 := fun n c hc => by
    have := pN_dig n c hc
    omega
  unfold pI at hc
  split at hc
  · rcases List.mem_cons.mp hc with rfl | hc
    · decide
    · exact hd _ c hc
  · exact hd _ c hc
theorem cut_two {α : Type} (a b : α) (r : List α) : ((a :: b :: r).drop (HT.sIx (a :: b :: r).length 0 (some 2))).take (HT.sIx (a :: b :: r).length (a :: b :: r).length none - HT.sIx (a :: b :: r).length 0 (some 2)) = r := by
  have e : HT.sIx (a :: b :: r).length 0 (some ((2 : Nat) : Int)) = min 2 (a :: b :: r).length := HT.sIx_nat ..
  have e2 : HT.sIx (a :: b :: r).length (a :: b :: r).length none = (a :: b :: r).length := rfl
  rw [show ((2 : Int)) = ((2 : Nat) : Int) from rfl, e, e2]
  have e3 : min 2 (a :: b :: r).length = 2 := by
    simp only [List.length_cons]
    omega
  rw [e3]
  show (r.take _) = r
  refine List.take_of_length_le ?_
  simp only [List.length_cons]
  omega
/-- a deed of values: its word, its spot, what else -/
theorem DeedFine.two {d : D} (h : DeedFine d) : (∃ f n ds, d = .tup [.str (txt "order"), .str f, .str n, .tup ds]) ∨ ∃ w f o p rest, d = .tup (.str w :: .tup [.str f, .str o, .tup p] :: rest) ∧ ¬ w = txt "order" ∧ (∀ e ∈ p, PtFine e) ∧ (∀ v ∈ rest, Atom v ∧ intsOk v = true) ∧
    deedWords d = [w, f ++ 47 :: (o ++ 47 :: pPath p)] ++ rest.map pLit := by
  cases h with
  | order f n ds _ _ _ => exact .inl ⟨f, n, ds, rfl⟩
  | gone f o p hf ho hp => exact .inr ⟨_, f, o, p, [], rfl, by decide +kernel, hp, (fun v hv => (List.not_mem_nil hv).elim), rfl⟩
  | set f o p v hf ho hp av iv lv => exact .inr ⟨_, f, o, p, [v], rfl, by decide +kernel, hp, (fun u hu => by rw [List.mem_singleton.mp hu]; exact ⟨av, iv⟩), rfl⟩
section
variable {P : Program} {w : World} {K : PySem.W.Frag} {mg : Str → Option Value} {base : Heap}
theorem ok_deedT {f fP fL : Addr} {fd fdP fdL : FuncData} (F : Fun K "_law_deed_text" "_law_deed_text" sDeedT f fd) (Z : Bare mg) (hD : base.NoDigits)
    (kP : PySem.W.keepIn K (.ref fP) = true) (bP : Binds K fdP ["_law_path"] []) (gP : mg "_law_path_text" = some (.ref fP)) (GP : FnOk P w K mg base CX0 1 fP fdP ["_law_path"] (spTx (fun d => match d with | .tup ds => pPath ds | _ => []) fun d => ∃ ds, d = .tup ds ∧ PathOk ds))
    (kL : PySem.W.keepIn K (.ref fL) = true) (bL : Binds K fdL ["_law_value"] []) (gL : mg "_law_lit_text" = some (.ref fL)) (GL : FnOk P w K mg base CX0 1 fL fdL ["_law_value"] (spTx pLit fun d => Atom d ∧ ∀ i, d = .int i → (pI i).length ≤ 1001)) :
    FnOk P w K mg base CX0 2 f fd ["_law_deed"] (spTx pDeed DeedFine) := by
  refine F.ok scDeedT (fun vs H Q E h => ?_) (fun cdv A outer s H vs Q E hr h => ?_)
  · obtain ⟨v, d, rfl, _⟩ := h
    rfl
  · obtain ⟨v, d, rfl, rv, fine, hl, q⟩ := h
    have hu : (A.deeper (envOfC (Str.ofString "_law_deed_text") (defScope sDeedT) s.heap.objs.size f cdv)).units + 64 < cLine := by
      have := hr.un
      omega
    refine ⟨_, pss_cons (ps_if (pt_cmpR op_eq (pe_ix ix_tup (pv 0) pe_int (fun _ _ => rfl)) pe_str (nomark _))
        (pss_cons (ps_setLc (i := 1) (own := [("_law_serial", 2)]) (g := gName 2) (tt := tYes) rfl scDeedT.nd rfl rfl (sw_true rfl rfl rfl (by decide +kernel)) (pi_tup (pe_ix ix_tup (pv 0) pe_int (fun _ _ => rfl)))
            (blkOk_by (N := ["_law_deed", "_law_rows", "_law_serial", "_law_file", "_law_owner", "_law_path", "_law_found", "_law_value"]) (sc := defScope sDeedT) (by decide +kernel))
            (fun _ _ _ _ _ => pg_name (i := 2) scDeedT.nd rfl (Or.inl rfl)) (fun _ _ _ _ _ => pts_nil)
            (fun _ _ _ _ _ => pe_op op_add_str pe_str (pe_callTy (call_str_dig rfl hD) (by rfl) Z.str (by decide +kernel) (pa_cons (pv 2) pa_nil))))
        (pss_one (ps_ret (pe_bm (T := "str") PySem.F.plainAttrs_str PySem.F.slot_str_join PySem.F.type_str_join mt_join pe_str (pa_cons
          (pe_op op_cat (pe_lst (pa_cons pe_str (pa_cons (pe_op op_add_str (pe_op op_add_str (pe_ix ix_tup (pv 0) pe_int (fun _ _ => rfl)) pe_str) (pe_ix ix_tup (pv 0) pe_int (fun _ _ => rfl))) pa_nil)))
            (pe_ifExp (pt_cmpR (op_neM hu) (pv 1) (pe_lst pa_nil) (nomark _)) (pv 1) (pe_lst (pa_cons pe_str pa_nil)))) pa_nil))))) pss_nil)
      (pss_cons (ps_asg (pe_ix ix_tup (pv 0) pe_int (fun _ _ => rfl)) (pg_tup rfl (pgs_cons (pg_name (i := 3) scDeedT.nd rfl (.inl rfl)) (pgs_cons (pg_name (i := 4) scDeedT.nd rfl (.inl rfl)) (pgs_cons (pg_name (i := 5) scDeedT.nd rfl (.inl rfl)) pgs_nil)))))
      (pss_cons (ps_set (i := 6) scDeedT.nd rfl (.inl rfl) (pe_lst (pa_cons (pe_ix ix_tup (pv 0) pe_int (fun _ _ => rfl)) (pa_cons (pe_op op_add_str (pe_op op_add_str (pe_op op_add_str (pe_op op_add_str (pv 3) pe_str) (pv 4)) pe_str)
          (pe_call GP hr (by rfl) gP kP bP .nil pass0 (pa_cons (pv 5) pa_nil))) pa_nil))))
      (pss_one (ps_ret (pe_bm (T := "str") PySem.F.plainAttrs_str PySem.F.slot_str_join PySem.F.type_str_join mt_join pe_str (pa_cons
          (pe_op op_cat (pv 6)
            (pe_lc (own := [("_law_value", 7)]) (g := gName 7) (tt := tYes) rfl scDeedT.nd (pi_tup (pe_slice sl_tup (pv 0) (po_some pe_int) po_none))
            (blkOk_by (N := ["_law_deed", "_law_rows", "_law_serial", "_law_file", "_law_owner", "_law_path", "_law_found", "_law_value"]) (sc := defScope sDeedT) (by decide +kernel))
            (fun _ _ _ _ _ => pg_name (i := 7) scDeedT.nd rfl (Or.inl rfl)) (fun _ _ _ _ _ => pts_nil)
            (fun _ _ _ _ _ => pe_call GL hr (by rfl) gL kL bL .nil pass0 (pa_cons (pv 7) pa_nil)))) pa_nil)))))), ?_⟩
    have js := joinL_sum (sep := [32]) (deedWords d)
    have jm : ∀ a ∈ deedWords d, a.length ≤ most := fun a ha => by
      have := joinL_mem (sep := [32]) ha
      rw [← pDeed_join fine] at this
      omega
    rw [← pDeed_join fine, List.length_singleton] at js
    have l1 : (Str.ofString "#").length = 1 := by decide +kernel
    have big : ∀ i : Int, (pI i).length ≤ 1001 → i.natAbs < 10 ^ 4300 := fun i h => Nat.lt_of_lt_of_le (pI_lt h) (Nat.pow_le_pow_right (by decide) (by decide))
    have hashed : ∀ i : Int, cp (Str.ofString "#" ++ Str.ofString (toString i)) = 35 :: pI i := fun i => by
      rw [cp_app, cp_lit1, str_int]
      rfl
    have fits : ∀ i : Int, (pI i).length ≤ 1001 → (Str.ofString "#").length + (Str.ofString (toString i)).length ≤ sizeLine := fun i h => by
      have h2 : (Str.ofString (toString i)).length = (pI i).length := by rw [← cp_len, str_int]
      exact Nat.le_trans (show _ ≤ 1002 by omega) (by decide)
    have fin : ∀ ys : List Str, ys.map cp = deedWords d → (ys.map (·.length)).sum + ys.length * (Str.ofString " ").length ≤ 16777216 ∧ cp (Txt.join (Str.ofString " ") ys) = pDeed d := fun ys ey => by
      have h1 : (Str.ofString " ").length = 1 := by decide +kernel
      have hn : ys.length = (deedWords d).length := by
        rw [← ey, List.length_map]
      refine ⟨?_, ?_⟩
      · rw [lens, ey, h1, hn]
        exact Nat.le_trans (show _ ≤ most + 1 by omega) (by decide)
      · rw [join_cp, cp_blank, ey, ← pDeed_join fine]
    have nums : (deedWords d).length ≤ most + 1 := by omega
    clear js
    cases rv with
    | int _ => cases fine
    | str _ => cases fine
    | tup ht rs =>
      rename_i t vs ds
      rcases fine.two with ⟨f', n', ds', e'⟩ | ⟨wd, fn, ow, p, rest, e', nw, sp, fr, dw⟩
      rotate_left
      · cases e'
        cases rs with | cons r0 rs => cases rs with | cons r1 rs =>
        rename_i v0 v1 us
        obtain ⟨y0, rfl, hy0⟩ := r0.strI
        cases r1 with
        | tup h1 r1 =>
        rename_i t1 us1
        cases r1 with | cons q0 r1 => cases r1 with | cons q1 r1 => cases r1 with | cons q2 r1 =>
        cases r1
        obtain ⟨y1, rfl, hy1⟩ := q0.strI
        obtain ⟨y2, rfl, hy2⟩ := q1.strI
        refine ⟨_, rfl, t, _, 0, _, rfl, rfl, SqT.of ht, atI_nat (j := 0) rfl, rfl, _, rfl, ?_⟩
        rw [dec_str, hy0, cp_order, decide_eq_false nw]
        rw [dw] at nums jm fin
        refine iteF ⟨_, rfl, t, _, 1, _, rfl, rfl, SqT.of ht, atI_nat (j := 1) rfl, t1, _, rfl, SqT.of h1, rfl, _, _, rfl, _, _, rfl, _, _, rfl, rfl, ?_⟩
        have w1 : (fn ++ 47 :: (ow ++ 47 :: pPath p)).length ≤ most := jm _ (by simp)
        rw [List.length_append, List.length_cons, List.length_append, List.length_cons] at w1
        have ly1 := cp_len y1
        have ly2 := cp_len y2
        rw [hy1] at ly1
        rw [hy2] at ly2
        have l47 : (Str.ofString "/").length = 1 := by decide +kernel
        have a1 : (y1 ++ Str.ofString "/").length = y1.length + 1 := by
          rw [← cp_len, cp_app, List.length_append, cp_len, cp_len, l47]
        have a2 : (y1 ++ Str.ofString "/" ++ y2).length = y1.length + 1 + y2.length := by
          rw [← cp_len, cp_app, List.length_append, cp_len, cp_len, a1]
        have a3 : (y1 ++ Str.ofString "/" ++ y2 ++ Str.ofString "/").length = y1.length + 1 + y2.length + 1 := by
          rw [← cp_len, cp_app, List.length_append, cp_len, cp_len, a2, l47]
        refine ⟨_, rfl, t, _, 0, _, rfl, rfl, SqT.of ht, atI_nat (j := 0) rfl, _, rfl, y1, _, rfl, rfl, Nat.le_trans (show _ ≤ most by omega) (by decide), _, rfl, _, _, rfl, rfl, Nat.le_trans (show _ ≤ most by omega) (by decide), _, _, rfl, rfl, Nat.le_trans (show _ ≤ most by omega) (by decide), ?_⟩
        refine ⟨_, rfl, _, .tup p, rfl, q2, ⟨p, rfl, PathOk.of sp⟩, (by show (pPath p).length ≤ most; omega), fun H1 z sm1 hz => ?_⟩
        have hz : cp z = pPath p := hz
        have lz := cp_len z
        rw [hz] at lz
        refine ⟨_, _, rfl, rfl, Nat.le_trans (show _ ≤ most by omega) (by decide), (by show 2 ≤ _; decide), fun p1 hp1 => ?_⟩
        have sm2 : Same H1 (upd H1 p1 (.lst [.str y0, .str (y1 ++ Str.ofString "/" ++ y2 ++ Str.ofString "/" ++ z)])) := same_upd hp1
        have hB : upd H1 p1 (.lst [.str y0, .str (y1 ++ Str.ofString "/" ++ y2 ++ Str.ofString "/" ++ z)]) p1 = some (.lst ([y0, y1 ++ Str.ofString "/" ++ y2 ++ Str.ofString "/" ++ z].map V.str)) := upd_same
        generalize upd H1 p1 (.lst [.str y0, .str (y1 ++ Str.ofString "/" ++ y2 ++ Str.ofString "/" ++ z)]) = H2 at sm2 hB ⊢
        have sm3 := sm1.trans sm2
        have ht2 := sm3 _ _ ht
        have wsp : cp (y1 ++ Str.ofString "/" ++ y2 ++ Str.ofString "/" ++ z) = fn ++ 47 :: (ow ++ 47 :: pPath p) := by
          rw [cp_app, cp_app, cp_app, cp_app, cp_slash, hy1, hy2, hz]
          simp
        generalize y1 ++ Str.ofString "/" ++ y2 ++ Str.ofString "/" ++ z = ysp at wsp hB ⊢
        refine ⟨rfl, _, rfl, _, rfl, 2, rfl, t, _, rfl, SqT.of ht2, ?_, fun p2 hp2 => ?_⟩
        · intro ⟨z1, _⟩
          rw [show ((2 : Int)) = ((2 : Nat) : Int) from rfl, HT.sIx_nat] at z1
          simp only [List.length_cons] at z1
          omega
        have ec : cutV (V.str y0 :: V.ref t1 :: us) (some 2) none = us := cut_two _ _ us
        rw [ec]
        have sm4 : Same H2 (upd H2 p2 (.tup us)) := same_upd hp2
        have hU : upd H2 p2 (.tup us) p2 = some (.tup us) := upd_same
        generalize upd H2 p2 (.tup us) = H3 at sm4 hU ⊢
        have rs3 := rs.keep (TupK.same (sm3.trans sm4))
        have vl := rs3.len
        refine ⟨p2, rfl, ⟨_, SqT.of hU⟩, fun D nD => ?_⟩
        refine lc_it (walk_tup (K := K) (a := p2) (xs := us)) (fun i G => ∃ ys : List Str, ys.map cp = (rest.take i).map pLit ∧ G D = some (.lst (ys.map V.str)) ∧ Same H3 G) ⟨[], rfl, upd_same, same_upd nD⟩ (fun i G _ z => ?_) ?_ ?_
        · obtain ⟨ys, _, _, sm⟩ := z
          exact SqT.of (sm _ _ hU)
        · rintro i x G G' hi ⟨ys, ey, hD, smG⟩ ⟨rfl, hx⟩
          have hi' : i < rest.length := by rw [← vl]; exact hi
          obtain ⟨d, hd⟩ : ∃ d, rest[i]? = some d := ⟨_, List.getElem?_eq_getElem hi'⟩
          obtain ⟨v, hv, rv⟩ := rs3.get hd
          obtain rfl : v = x := Option.some.inj (hv.symm.trans hx)
          obtain ⟨ad, id_⟩ := fr d (List.mem_of_getElem? hd)
          have yl : ys.length < sizeLine := by
            have := congrArg List.length ey
            rw [List.length_map, List.length_map, List.length_take] at this
            rw [List.length_append, List.length_map] at nums
            exact Nat.lt_of_le_of_lt (show ys.length ≤ most + 1 by omega) (by decide)
          refine ⟨rfl, _, rfl, v, d, rfl, rv.keep (TupK.same smG), ⟨ad, intsOk_int id_⟩, jm _ (List.mem_append_right _ (List.mem_map_of_mem (List.mem_of_getElem? hd))), fun G2 y sm5 hy => ?_⟩
          refine ⟨_, sm5 _ _ hD, by rw [List.length_map]; exact yl, ys ++ [y], ?_, ?_, ?_⟩
          · rw [List.map_append, ey, List.take_add_one, hd, List.map_append]
            simp [hy]
          · rw [upd_same, List.map_append]
            rfl
          · exact fun b o hb => by
              rw [upd_ne (ne_of_none hb nD)]
              exact sm5 _ _ (smG _ _ hb)
        · rintro G ⟨ys, ey, hD, smG⟩
          rw [vl, List.take_length] at ey
          have ez : ([y0, ysp] ++ ys).map cp = [wd, fn ++ 47 :: (ow ++ 47 :: pPath p)] ++ rest.map pLit := by
            rw [List.map_append, ey, List.map_cons, List.map_cons, List.map_nil, hy0, wsp]
          have hB9 := smG _ _ (sm4 _ _ hB)
          refine ⟨p1, D, _, _, rfl, rfl, hB9, hD, ?_, fun p4 h4 => ?_⟩
          · rw [List.length_map, List.length_map]
            have e1 := congrArg List.length ey
            rw [List.length_map, List.length_map] at e1
            rw [List.length_append, List.length_map] at nums
            exact Nat.le_trans (show _ ≤ most + 3 by simp only [List.length_cons, List.length_nil] at nums ⊢; omega) (by decide)
          · refine ⟨_, p4, [y0, ysp] ++ ys, rfl, rfl, .inl (SqL.of ?_), (fin _ ez).1, q _ _ ((sm3.trans sm4).trans (smG.trans (same_upd h4))) (fin _ ez).2⟩
            rw [upd_same, List.map_append]
      cases fine with
      | order fn nm sr sf sn ss =>
        cases rs with | cons r0 rs => cases rs with | cons r1 rs => cases rs with | cons r2 rs => cases rs with | cons r3 rs =>
        cases rs
        obtain ⟨y0, rfl, hy0⟩ := r0.strI
        obtain ⟨y1, rfl, hy1⟩ := r1.strI
        obtain ⟨y2, rfl, hy2⟩ := r2.strI
        cases r3 with
        | tup h3 r3 =>
        rename_i t3 us
        have vl := r3.len
        refine ⟨_, rfl, t, _, 0, _, rfl, rfl, SqT.of ht, atI_nat (j := 0) rfl, rfl, _, rfl, ?_⟩
        rw [dec_str, hy0, cp_order, decide_eq_true rfl]
        refine iteT ?_
        refine ⟨_, rfl, t, _, 3, _, rfl, rfl, SqT.of ht, atI_nat (j := 3) rfl, t3, rfl, ⟨_, SqT.of h3⟩, fun D nD => ?_⟩
        refine lc_it (walk_tup (K := K) (a := t3) (xs := us)) (fun i G => ∃ ys : List Str, ys.map cp = (sr.take i).map (fun d => 35 :: pNo d) ∧ G = upd H D (.lst (ys.map V.str))) ⟨[], rfl, rfl⟩ (fun i G _ z => ?_) ?_ ?_
        · obtain ⟨ys, _, rfl⟩ := z
          exact SqT.of (same_upd nD _ _ h3)
        · rintro i x G G' hi ⟨ys, ey, rfl⟩ ⟨rfl, hx⟩
          have hi' : i < sr.length := by rw [← vl]; exact hi
          obtain ⟨d, hd⟩ : ∃ d, sr[i]? = some d := ⟨_, List.getElem?_eq_getElem hi'⟩
          obtain ⟨v, hv, rv⟩ := r3.get hd
          obtain rfl : v = x := Option.some.inj (hv.symm.trans hx)
          obtain ⟨m, rfl, hm⟩ := ss d (List.mem_of_getElem? hd)
          have e := rv.intI
          subst e
          have yl : ys.length < sizeLine := by
            have e1 := congrArg List.length ey
            rw [List.length_map, List.length_map, List.length_take] at e1
            have e2 : (rowWs sr).length = sr.length := by
              cases sr with
              | nil => cases hi'
              | cons a b => rw [rowWs, List.length_map]
            rw [deedWords, List.length_append, e2] at nums
            simp only [List.length_cons, List.length_nil] at nums
            exact Nat.lt_of_le_of_lt (show ys.length ≤ most + 1 by omega) (by decide)
          refine ⟨rfl, _, rfl, (m : Int), rfl, big _ hm, _, _, rfl, rfl, fits _ hm, ?_⟩
          refine ⟨_, upd_same, by rw [List.length_map]; exact yl, ys ++ [Str.ofString "#" ++ Str.ofString (toString (m : Int))], ?_, ?_⟩
          · rw [List.map_append, ey, List.take_add_one, hd, List.map_append, List.map_cons, hashed]
            rfl
          · rw [upd_upd, List.map_append]
            rfl
        · rintro G ⟨ys, ey, rfl⟩
          rw [vl, List.take_length] at ey
          have smD : Same H (upd H D (.lst (ys.map V.str))) := same_upd nD
          have hD1 : upd H D (.lst (ys.map V.str)) D = some (.lst (ys.map V.str)) := upd_same
          have ht1 := smD _ _ ht
          generalize upd H D (.lst (ys.map V.str)) = H1 at smD hD1 ht1 ⊢
          have w0 : (fn ++ 47 :: nm).length ≤ most := jm _ (by simp [deedWords])
          rw [List.length_append, List.length_cons] at w0
          have ly1 := cp_len y1
          have ly2 := cp_len y2
          rw [hy1] at ly1
          rw [hy2] at ly2
          have l47 : (Str.ofString "/").length = 1 := by decide +kernel
          have l48 : (y1 ++ Str.ofString "/").length = y1.length + 1 := by
            rw [← cp_len, cp_app, List.length_append, cp_len, cp_len, l47]
          refine ⟨rfl, _, rfl, t, _, 1, _, rfl, rfl, SqT.of ht1, atI_nat (j := 1) rfl, _, _, rfl, rfl, Nat.le_trans (show _ ≤ most by omega) (by decide), ?_⟩
          refine ⟨_, rfl, t, _, 2, _, rfl, rfl, SqT.of ht1, atI_nat (j := 2) rfl, _, _, rfl, rfl, Nat.le_trans (show _ ≤ most by omega) (by decide), (by show 2 ≤ _; decide), fun p1 h1 => ?_⟩
          have sm1 : Same H1 (upd H1 p1 (.lst [.str "order", .str (y1 ++ Str.ofString "/" ++ y2)])) := same_upd h1
          have hp1 : upd H1 p1 (.lst [.str "order", .str (y1 ++ Str.ofString "/" ++ y2)]) p1 = some (.lst ([Str.ofString "order", y1 ++ Str.ofString "/" ++ y2].map V.str)) := upd_same
          generalize upd H1 p1 (.lst [.str "order", .str (y1 ++ Str.ofString "/" ++ y2)]) = H2 at sm1 hp1 ⊢
          refine ⟨_, rfl, (by show 0 ≤ _; decide), fun p2 h2 => ?_⟩
          have sm2 : Same H2 (upd H2 p2 (.lst [])) := same_upd h2
          have hp2 : upd H2 p2 (.lst []) p2 = some (.lst []) := upd_same
          generalize upd H2 p2 (.lst []) = H3 at sm2 hp2 ⊢
          have hD3 := sm2 _ _ (sm1 _ _ hD1)
          have hp3 := sm2 _ _ hp1
          have sm3 := smD.trans (sm1.trans sm2)
          refine ⟨.list (ys.map PyData.str), .list [], .lst (SqL.of hD3) (dp_strs ys), .lst (SqL.of hp2) .nil, ?_, rfl, ?_, _, rfl, ?_⟩
          · rw [PyData.canLay0]
            refine lay_strs fun y hy => ?_
            have hm : cp y ∈ sr.map (fun d => 35 :: pNo d) := by
              rw [← ey]
              exact List.mem_map_of_mem hy
            obtain ⟨d, hd, e⟩ := List.mem_map.mp hm
            obtain ⟨m, rfl, _⟩ := ss d hd
            rw [← e]
            intro c hc
            rcases List.mem_cons.mp hc with rfl | hc
            · decide
            · exact pI_small _ c hc
          · refine Nat.le_trans (Nat.min_le_right _ _) ?_
            decide
          have wo : cp (Str.ofString "order") = txt "order" := cp_order
          have wn : cp (y1 ++ Str.ofString "/" ++ y2) = fn ++ 47 :: nm := by
            rw [cp_app, cp_app, cp_slash, hy1, hy2]
            simp
          have two : ∀ n : Nat, n ≤ most + 1 → [Str.ofString "order", y1 ++ Str.ofString "/" ++ y2].length + n ≤ sizeLine := fun n h => Nat.le_trans (show _ ≤ most + 3 by simp only [List.length_cons, List.length_nil]; omega) (by decide)
          have hey : ∀ zs : List Str, zs.map cp = rowWs sr → ([Str.ofString "order", y1 ++ Str.ofString "/" ++ y2] ++ zs).map cp = deedWords (.tup [.str (txt "order"), .str fn, .str nm, .tup sr]) := fun zs h => by
            rw [List.map_append, h, deedWords, List.map_cons, List.map_cons, List.map_nil, wo, wn]
          have zl : ∀ zs : List Str, zs.map cp = rowWs sr → zs.length ≤ most + 1 := fun zs h => by
            have e := congrArg List.length h
            rw [List.length_map] at e
            rw [deedWords, List.length_append] at nums
            omega
          cases hsr : sr with
          | nil =>
            have ynil : ys = [] := by
              rw [hsr] at ey
              exact List.map_eq_nil_iff.mp ey
            subst ynil
            refine iteF ⟨(by show 1 ≤ _; decide), fun b hb => ?_⟩
            have smb : Same H3 (upd H3 b (.lst [.str "-"])) := same_upd hb
            have hpb : upd H3 b (.lst [.str "-"]) b = some (.lst ([Str.ofString "-"].map V.str)) := upd_same
            generalize upd H3 b (.lst [.str "-"]) = H4 at smb hpb ⊢
            have ez : [Str.ofString "-"].map cp = rowWs sr := by
              rw [hsr]
              exact congrArg (fun x => [x]) cp_dash'
            refine ⟨p1, b, _, _, rfl, rfl, smb _ _ hp3, hpb, by rw [List.length_map, List.length_map]; exact two _ (zl _ ez), fun p4 h4 => ?_⟩
            refine ⟨_, p4, [Str.ofString "order", y1 ++ Str.ofString "/" ++ y2] ++ [Str.ofString "-"], rfl, rfl, .inl (SqL.of ?_), (fin _ (hey _ ez)).1, q _ _ (sm3.trans (smb.trans (same_upd h4))) (fin _ (hey _ ez)).2⟩
            rw [upd_same, List.map_append]
          | cons d0 dr =>
            have ez : ys.map cp = rowWs sr := by
              rw [ey, hsr]
              rfl
            cases ys with
            | nil =>
              rw [hsr] at ey
              cases ey
            | cons ya yr =>
            refine iteT ⟨_, rfl, ?_⟩
            refine ⟨p1, D, _, _, rfl, rfl, hp3, hD3, by rw [List.length_map, List.length_map]; exact two _ (zl _ ez), fun p4 h4 => ?_⟩
            refine ⟨_, p4, [Str.ofString "order", y1 ++ Str.ofString "/" ++ y2] ++ (ya :: yr), rfl, rfl, .inl (SqL.of ?_), (fin _ (hey _ ez)).1, q _ _ (sm3.trans (same_upd h4)) (fin _ (hey _ ez)).2⟩
            rw [upd_same, List.map_append]
      | gone _ _ _ _ _ _ => cases e'
      | set _ _ _ _ _ _ _ _ _ _ => cases e'
end
end K9

set_option maxHeartbeats 400000
/-! Whether it is a literal. -/
namespace K9
open PySem PySem.Spec PyProof.Rows L2 K2

theorem scIsLit : FnScope ["_law_value", "_law_sign"] ["_law_value"] (defScope sIsLit) := ⟨rfl, rfl, rfl, by decide +kernel, rfl, by decide +kernel, by decide +kernel⟩
def spIsLit : Sp := fun vs H Q _ => ∃ v d, vs = [v] ∧ Rep H v d ∧ Atom d ∧ LitOk d ∧ ∀ H', Same H H' → Q (.bl true) H'
theorem kit2 {K : PySem.W.Frag} {a b c : String} {x y : Bool} (h1 : kitB a b = some x) (h2 : kitB a c = some y) : PySem.W.kitAny K (.type a) [.type b, .type c] = some (x || y) := by
  refine kitAny_cons (b := x) (kit_ty h1) (fun e => ?_) (fun e => by rw [e]; rfl)
  rw [e, Bool.false_or]
  refine kitAny_cons (b := y) (kit_ty h2) (fun e => ?_) (fun e => e)
  rw [e]
  rfl
section
variable {P : Program} {w : World} {K : PySem.W.Frag} {mg : Str → Option Value} {base : Heap}
theorem ok_isLit {f : Addr} {fd : FuncData} (F : Fun K "_law_is_literal" "_law_is_literal" sIsLit f fd) (Z : Bare mg) (mB : mg "bool" = none) :
    FnOk P w K mg base CX0 1 f fd ["_law_value"] spIsLit := by
  refine F.ok scIsLit (fun vs H Q E h => ?_) (fun cdv A outer s H vs Q E hr h => ?_)
  · obtain ⟨v, d, rfl, _⟩ := h
    rfl
  · obtain ⟨v, d, rfl, rv, ad, ld, q⟩ := h
    refine ⟨_, pss_cons (ps_if (PW.pt (pw_or (pt_val (pe_callB (r := rIsi K) call_isi (by rfl) Z.isin (by decide +kernel)
          (pa_cons (pv 0) (pa_cons (pe_bltn (v := .ty "bool") (by rfl) mB (by decide +kernel) rfl) pa_nil))))
        (pw_or1 (pt_not (pt_val (pe_callB (r := rIsiT K) call_isiT (by rfl) Z.isin (by decide +kernel)
          (pa_cons (pv 0) (pa_cons (pe_tup (pa_cons (pe_bltn (v := .ty "int") (by rfl) Z.int (by decide +kernel) rfl) (pa_cons (pe_bltn (v := .ty "str") (by rfl) Z.str (by decide +kernel) rfl) pa_nil))) pa_nil))))))))
        (pss_one (ps_ret pe_bl)) pss_nil)
      (pss_cons (ps_if (pt_val (pe_callB (r := rIsi K) call_isi (by rfl) Z.isin (by decide +kernel)
          (pa_cons (pv 0) (pa_cons (pe_bltn (v := .ty "int") (by rfl) Z.int (by decide +kernel) rfl) pa_nil))))
        (pss_one (ps_ret pe_bl)) pss_nil)
      (pss_one (ps_ret (pe_and (pe_cmpR op_lt (pe_callB call_len_str (by rfl) Z.len PySem.boot_len (pa_cons (pv 0) pa_nil)) pe_int (nomark _))
        (pe_one (pe_callB (cr_all rfl) (by rfl) Z.all (by decide +kernel) (pa_cons
          (pe_lc (own := [("_law_sign", 1)]) (g := gName 1) (tt := tYes) rfl scIsLit.nd (pi_str (pv 0))
            (blkOk_by (N := ["_law_value", "_law_sign"]) (sc := defScope sIsLit) (by decide +kernel))
            (fun _ _ _ _ _ => pg_name (i := 1) scIsLit.nd rfl (Or.inl rfl)) (fun _ _ _ _ _ => pts_nil)
            (fun _ _ _ _ _ => pe_and (pe_chain op_le_str op_le_str pe_str (pv 1) pe_str) (pe_one (pe_cmpR op_notIn_sign (pv 1) pe_str (by with_unfolding_all rfl))))) pa_nil))))))), ?_⟩
    cases rv with
    | tup _ _ => exact ad.elim
    | int i =>
      refine ⟨_, rfl, _, .ty "bool", _, .type "bool", false, rfl, .ty "bool", .base (.int i), kit_ty (by decide +kernel), _, rfl, iteF ?_⟩
      refine ⟨_, rfl, (by show 2 ≤ _; decide), fun t ht => ?_⟩
      have sm := same_upd (o := .tup [.ty "int", .ty "str"]) ht
      refine ⟨_, t, _, .type "int", [.type "int", .type "str"], true, rfl, upd_same, .cons (.ty "int") (.cons (.ty "str") .nil), .base (.int i), kit2 (x := true) (y := false) (by decide +kernel) (by decide +kernel), _, rfl, iteF ?_⟩
      refine ⟨_, rfl, _, .ty "int", _, .type "int", true, rfl, .ty "int", .base (.int i), kit_ty (by decide +kernel), _, rfl, iteT ?_⟩
      exact q _ sm
    | str y =>
      refine ⟨_, rfl, _, .ty "bool", _, .type "bool", false, rfl, .ty "bool", .base (.str y), kit_ty (by decide +kernel), _, rfl, iteF ?_⟩
      refine ⟨_, rfl, (by show 2 ≤ _; decide), fun t ht => ?_⟩
      have sm := same_upd (o := .tup [.ty "int", .ty "str"]) ht
      refine ⟨_, t, _, .type "str", [.type "int", .type "str"], true, rfl, upd_same, .cons (.ty "int") (.cons (.ty "str") .nil), .base (.str y), kit2 (x := false) (y := true) (by decide +kernel) (by decide +kernel), _, rfl, iteF ?_⟩
      generalize upd H t (.tup [.ty "int", .ty "str"]) = H1 at sm ⊢
      refine ⟨_, rfl, _, .ty "int", _, .type "int", false, rfl, .ty "int", .base (.str y), kit_ty (by decide +kernel), _, rfl, iteF ?_⟩
      have ld : strOk (cp y) = true := ld
      unfold strOk at ld
      simp only [Bool.and_eq_true, decide_eq_true_eq, List.all_eq_true] at ld
      have yl := cp_len y
      refine ⟨_, rfl, y, rfl, Nat.le_trans (show _ ≤ 60 by omega) (by decide), _, _, rfl, rfl, ?_⟩
      refine ⟨_, rfl, ite2 (fun _ => ?_) (fun e => absurd (decide_eq_true (show ((y.length : Nat) : Int) < 61 by omega)) e)⟩
      refine ⟨_, rfl, y, rfl, fun D hD => lc_it (walk_str (z := y)) (fun i G => G = upd H1 D (.lst ((List.replicate i true).map V.bl))) rfl (fun _ _ _ _ => True.intro) ?_ ?_⟩
      · rintro i v G G' hi rfl ⟨rfl, c, hc, rfl⟩
        have hm : c ∈ cp y := by
          have : (cp y)[i]? = some c := by rw [← cp_get]; exact hc
          exact List.mem_of_getElem? this
        have hin := ld.2 c hm
        have hil : i < y.length := hi
        have c1 : (!decide ([c] < [32])) = true := by
          rw [one_lt]
          simp [isIn] at hin ⊢
          omega
        have c2 : (!decide ([126] < [c])) = true := by
          rw [one_lt]
          simp [isIn] at hin ⊢
          omega
        have c3 : (!decide (c ∈ (Str.ofString "\"\\").cps.toList)) = true := by
          rw [show (Str.ofString "\"\\").cps.toList = [34, 92] by decide +kernel]
          simp [isIn] at hin ⊢
          omega
        refine ⟨rfl, .str ⟨#[c]⟩, rfl, _, _, rfl, rfl, _, rfl, ite2 (fun _ => ?_) (fun e => absurd c1 e)⟩
        refine ⟨_, _, rfl, rfl, _, rfl, ite2 (fun _ => ?_) (fun e => absurd c2 e)⟩
        refine ⟨.str ⟨#[c]⟩, rfl, c, _, rfl, rfl, ?_⟩
        refine ⟨_, upd_same, by rw [List.length_map, List.length_replicate]; exact Nat.lt_of_lt_of_le hil (Nat.le_trans (show _ ≤ 60 by omega) (by decide)), ?_⟩
        rw [upd_upd, List.replicate_succ', List.map_append]
        have e3 : (if (1 : Nat) = 2 then decide (c ∈ (Str.ofString "\"\\").cps.toList) else !decide (c ∈ (Str.ofString "\"\\").cps.toList)) = true := c3
        show upd H1 D (.lst (_ ++ [V.bl (!decide (c ∈ (Str.ofString "\"\\").cps.toList))])) = _
        rw [c3]
        rfl
      · rintro G rfl
        refine ⟨D, _, rfl, SqL.of upd_same, ?_⟩
        have ea : (List.replicate y.cps.size true).all id = true := by
          rw [List.all_eq_true]
          intro b hb
          rw [List.eq_of_mem_replicate hb]
          rfl
        rw [ea]
        exact q _ (sm.trans (same_upd hD))
end
end K9

set_option maxHeartbeats 400000
/-! Whether it has the form of an edit. -/
namespace K9
open PySem PySem.Spec PyProof.Rows L2 K2

theorem scEFine : FnScope ["_law_found", "_law_sizes", "_law_step"] ["_law_found"] (defScope sEFine) := ⟨rfl, rfl, rfl, by decide +kernel, rfl, by decide +kernel, by decide +kernel⟩
def sizesE : List (Key × V) := mergeK [] [(.inr "set", .int 3), (.inr "take", .int 3), (.inr "put", .int 5), (.inr "carry", .int 5)]
theorem StepFine.size {d : D} (h : StepFine d) : ∃ w r, d = .tup (.str w :: r) ∧ ∀ y : Str, cp y = w → valV sizesE (.inr y) = some (.int ((r.length + 1 : Nat) : Int)) := by
  have key : ∀ (s : Str) (w : List Nat) (n : Int), cp s = w → valV sizesE (.inr s) = some (.int n) → ∀ y : Str, cp y = w → valV sizesE (.inr y) = some (.int n) := fun s w n hs hv y hy => by
    rw [cp_inj (hy.trans hs.symm)]
    exact hv
  cases h with
  | set p v _ _ _ => exact ⟨_, _, rfl, key "set" _ _ cp_set (show valV sizesE (.inr "set") = some (.int 3) by decide +kernel)⟩
  | take p n _ _ => exact ⟨_, _, rfl, key "take" _ _ cp_take (show valV sizesE (.inr "take") = some (.int 3) by decide +kernel)⟩
  | put p i s ds _ _ _ _ _ => exact ⟨_, _, rfl, key "put" _ _ cp_put (show valV sizesE (.inr "put") = some (.int 5) by decide +kernel)⟩
  | carry p o s i _ _ _ _ => exact ⟨_, _, rfl, key "carry" _ _ cp_carry (show valV sizesE (.inr "carry") = some (.int 5) by decide +kernel)⟩
theorem StepOk.lit {d : D} (h : StepOk d) : ∃ w r, d = .tup (.str w :: r) ∧ (w = txt "set" → ∃ p v, r = [p, v] ∧ Atom v ∧ LitOk v) := by
  cases h with
  | set p v _ l =>
    refine ⟨_, _, rfl, fun _ => ⟨p, v, rfl, ?_, l⟩⟩
    cases v with
    | tup _ => exact l.elim
    | int _ => trivial
    | str _ => trivial
  | take p n _ => exact ⟨_, _, rfl, fun e => absurd e (by decide +kernel)⟩
  | put p i s ds _ _ => exact ⟨_, _, rfl, fun e => absurd e (by decide +kernel)⟩
  | carry p o s i _ _ => exact ⟨_, _, rfl, fun e => absurd e (by decide +kernel)⟩
def rLen (K : PySem.W.Frag) : List V → Hp → VK → Prop := fun xs H Q => ∃ p ys, xs = [.ref p] ∧ (SqL K H p ys ∨ SqT K H p ys) ∧ Q (.int (ys.length : Nat)) H
theorem call_lenK {X : Cx} : CallR X (.builtin "len") (rLen X.K) := call_len_seq
/-- the head of a step that is shown -/
theorem rep_head {H : Hp} {v : V} {w : List Nat} {r : List D} (h : Rep H v (.tup (.str w :: r))) : ∃ t y us, v = .ref t ∧ H t = some (.tup (.str y :: us)) ∧ cp y = w ∧ RepL H us r := by
  generalize e : D.tup (.str w :: r) = d at h
  cases h with
  | int _ => cases e
  | str _ => cases e
  | tup ht rs =>
    cases e
    cases rs with
    | cons r0 rs =>
      obtain ⟨y, rfl, hy⟩ := r0.strI
      exact ⟨_, y, _, rfl, ht, hy, rs⟩
theorem rep_true {H : Hp} {D : Addr} {i : Nat} : upd (upd H D (.lst ((List.replicate i true).map V.bl))) D (.lst ((List.replicate i true).map V.bl ++ [V.bl true])) = upd H D (.lst ((List.replicate (i + 1) true).map V.bl)) := by
  rw [upd_upd, List.replicate_succ', List.map_append]
  rfl
def spEFine : Sp := fun vs H Q _ => ∃ v ds, vs = [v] ∧ Rep H v (.tup ds) ∧ (∀ d ∈ ds, StepFine d ∧ StepOk d) ∧ ds.length ≤ most ∧ ∀ H', Same H H' → Q (.bl true) H'
theorem all_true (n : Nat) : (List.replicate n true).all id = true := by
  rw [List.all_eq_true]
  intro b hb
  rw [List.eq_of_mem_replicate hb]
  rfl
section
variable {P : Program} {w : World} {K : PySem.W.Frag} {mg : Str → Option Value} {base : Heap}
theorem ok_eFine {f fL : Addr} {fd fdL : FuncData} (F : Fun K "_law_edit_fine" "_law_edit_fine" sEFine f fd) (Z : Bare mg) (mT : mg "tuple" = none)
    (kL : PySem.W.keepIn K (.ref fL) = true) (bL : Binds K fdL ["_law_value"] []) (gL : mg "_law_is_literal" = some (.ref fL)) (GL : FnOk P w K mg base CX0 1 fL fdL ["_law_value"] spIsLit) :
    FnOk P w K mg base CX0 2 f fd ["_law_found"] spEFine := by
  refine F.ok scEFine (fun vs H Q E h => ?_) (fun cdv A outer s H vs Q E hr h => ?_)
  · obtain ⟨v, d, rfl, _⟩ := h
    rfl
  · obtain ⟨v, ds, rfl, rv, fine, nd, q⟩ := h
    refine ⟨_, pss_cons (ps_set (i := 1) scEFine.nd rfl (.inr rfl) (pe_disp (pps_cons pe_str pe_int (pps_cons pe_str pe_int (pps_cons pe_str pe_int (pps_cons pe_str pe_int pps_nil)))) (by rfl) (by rfl) (fun z => by cases z) (by decide)))
      (pss_cons (ps_if (PW.pt (pw_or (pt_not (pt_val (pe_callB (r := rIsi K) call_isi (by rfl) Z.isin (by decide +kernel)
          (pa_cons (pv 0) (pa_cons (pe_bltn (v := .ty "tuple") (by rfl) mT (by decide +kernel) rfl) pa_nil)))))
        (pw_or1 (pt_not (pt_val (pe_callB (cr_all rfl) (by rfl) Z.all (by decide +kernel) (pa_cons
          (pe_lc (own := [("_law_step", 2)]) (g := gName 2) (tt := tYes) rfl scEFine.nd (pi_tup (pv 0))
            (blkOk_by (N := ["_law_found", "_law_sizes", "_law_step"]) (sc := defScope sEFine) (by decide +kernel))
            (fun _ _ _ _ _ => pg_name (i := 2) scEFine.nd rfl (Or.inl rfl)) (fun _ _ _ _ _ => pts_nil)
            (fun _ _ _ _ _ => pe_and (pe_callB (r := rIsi K) call_isi (by rfl) Z.isin (by decide +kernel) (pa_cons (pv 2) (pa_cons (pe_bltn (v := .ty "tuple") (by rfl) mT (by decide +kernel) rfl) pa_nil)))
              (pe_one (pe_cmp (pc_din (hu_of hr) (pe_ix (r := rIxT K) ix_tup (pv 2) pe_int (fun _ _ => rfl)) (pv 1)) rfl)))) pa_nil)))))))
        (pss_one (ps_ret pe_bl)) pss_nil)
      (pss_cons (ps_if (pt_not (pt_val (pe_callB (cr_all rfl) (by rfl) Z.all (by decide +kernel) (pa_cons
          (pe_lc (own := [("_law_step", 2)]) (g := gName 2) (tt := tYes) rfl scEFine.nd (pi_tup (pv 0))
            (blkOk_by (N := ["_law_found", "_law_sizes", "_law_step"]) (sc := defScope sEFine) (by decide +kernel))
            (fun _ _ _ _ _ => pg_name (i := 2) scEFine.nd rfl (Or.inl rfl)) (fun _ _ _ _ _ => pts_nil)
            (fun _ _ _ _ _ => pe_cmpR op_eq (pe_callB (r := rLen K) call_lenK (by rfl) Z.len PySem.boot_len (pa_cons (pv 2) pa_nil)) (pe_dget (hu_of hr) (pv 1) (pe_ix (r := rIxT K) ix_tup (pv 2) pe_int (fun _ _ => rfl)) (fun _ _ => rfl)) (nomark _))) pa_nil))))
        (pss_one (ps_ret pe_bl)) pss_nil)
      (pss_one (ps_ret (pe_callB (cr_all rfl) (by rfl) Z.all (by decide +kernel) (pa_cons
          (pe_lc (own := [("_law_step", 2)]) (g := gName 2) (tt := tYes) rfl scEFine.nd (pi_tup (pv 0))
            (blkOk_by (N := ["_law_found", "_law_sizes", "_law_step"]) (sc := defScope sEFine) (by decide +kernel))
            (fun _ _ _ _ _ => pg_name (i := 2) scEFine.nd rfl (Or.inl rfl)) (fun _ _ _ _ _ => pts_nil)
            (fun _ _ _ _ _ => pe_or (pe_cmpR op_ne (pe_ix (r := rIxT K) ix_tup (pv 2) pe_int (fun _ _ => rfl)) pe_str (nomark _)) (pe_one (pe_call GL hr (by rfl) gL kL bL .nil pass0 (pa_cons (pe_ix (r := rIxT K) ix_tup (pv 2) pe_int (fun _ _ => rfl)) pa_nil))))) pa_nil)))))), ?_⟩
    cases rv with
    | tup ht rs =>
    rename_i t vs
    have vl := rs.len
    -- the sizes
    refine fun D hD => ?_
    have sm0 : Same H (upd H D (.dK [])) := same_upd hD
    refine ⟨upd_same, [(.inr "set", .int 3), (.inr "take", .int 3), (.inr "put", .int 5), (.inr "carry", .int 5)], rfl, by decide, ?_⟩
    have sm1 : Same H (upd (upd H D (.dK [])) D (.dK sizesE)) := fun a o e => by
      rw [upd_ne (ne_of_none e hD), upd_ne (ne_of_none e hD)]
      exact e
    have hZ : upd (upd H D (.dK [])) D (.dK sizesE) D = some (.dK sizesE) := upd_same
    show gName 1 (V.ref D) _ (upd (upd H D (.dK [])) D (.dK sizesE)) _
    generalize upd (upd H D (.dK [])) D (.dK sizesE) = H1 at sm1 hZ ⊢
    have ht1 := sm1 _ _ ht
    have rs1 := rs.keep (TupK.same sm1)
    refine ⟨_, rfl, _, .ty "tuple", _, .type "tuple", true, rfl, .ty "tuple", .base (.tup ht1), kit_ty (by decide +kernel), _, rfl, iteF ?_⟩
    have nlt : ∀ {i : Nat}, i < ds.length → ((List.replicate i true).map V.bl).length < sizeLine := fun h => by
      rw [List.length_map, List.length_replicate]
      exact Nat.lt_of_lt_of_le h (Nat.le_trans nd (by decide))
    have at_ : ∀ {G : Hp} {i : Nat} {x : V}, Same H1 G → i < vs.length → vs[i]? = some x → ∃ d w r t y us, ds[i]? = some d ∧ d = .tup (.str w :: r) ∧ x = .ref t ∧ G t = some (.tup (.str y :: us)) ∧ cp y = w ∧ RepL G us r ∧ StepFine d ∧ StepOk d := by
      intro G i x sm hi hx
      have hi' : i < ds.length := by rw [← vl]; exact hi
      obtain ⟨d, hd⟩ : ∃ d, ds[i]? = some d := ⟨_, List.getElem?_eq_getElem hi'⟩
      obtain ⟨v, hv, rv⟩ := rs1.get hd
      obtain rfl : v = x := Option.some.inj (hv.symm.trans hx)
      obtain ⟨f1, f2⟩ := fine d (List.mem_of_getElem? hd)
      obtain ⟨w, r, e, _⟩ := f1.size
      have rv' := rv.keep (TupK.same sm)
      rw [e] at rv'
      obtain ⟨t, y, us, e2, h1, h2, h3⟩ := rep_head rv'
      exact ⟨d, w, r, t, y, us, hd, e, e2, h1, h2, h3, f1, f2⟩
    refine ⟨_, rfl, t, rfl, ⟨_, SqT.of ht1⟩, fun D1 n1 => ?_⟩
    refine lc_it (walk_tup (K := K) (a := t) (xs := vs)) (fun i G => G = upd H1 D1 (.lst ((List.replicate i true).map V.bl))) rfl (fun i G _ z => by rw [z]; exact SqT.of (same_upd n1 _ _ ht1)) ?_ ?_
    · rintro i x G G' hi rfl ⟨rfl, hx⟩
      have sm := same_upd (o := .lst ((List.replicate i true).map V.bl)) n1
      obtain ⟨d, wd, r, ts, y, us, hd, rfl, rfl, hts, hy, rus, f1, f2⟩ := at_ sm hi hx
      obtain ⟨_, _, e, hsz⟩ := f1.size
      cases e
      refine ⟨rfl, _, rfl, _, .ty "tuple", _, .type "tuple", true, rfl, .ty "tuple", .base (.tup hts), kit_ty (by decide +kernel), _, rfl, iteT ?_⟩
      refine ⟨_, rfl, ts, _, 0, _, rfl, rfl, SqT.of hts, atI_nat (j := 0) rfl, _, rfl, D, _, rfl, DGet.k (k := .inr y) (sm _ _ hZ), ?_⟩
      rw [hsz y hy]
      exact ⟨_, upd_same, nlt (by rw [← vl]; exact hi), rep_true⟩
    rintro G rfl
    have smG := same_upd (o := .lst ((List.replicate vs.length true).map V.bl)) n1
    refine ⟨D1, _, rfl, SqL.of upd_same, _, rfl, ?_⟩
    rw [all_true]
    refine iteF ?_
    have sm2 : Same H1 (upd H1 D1 (.lst ((List.replicate vs.length true).map V.bl))) := smG
    generalize upd H1 D1 (.lst ((List.replicate vs.length true).map V.bl)) = H2 at sm2 ⊢
    have ht2 := sm2 _ _ ht1
    refine ⟨_, rfl, t, rfl, ⟨_, SqT.of ht2⟩, fun D2 n2 => ?_⟩
    refine lc_it (walk_tup (K := K) (a := t) (xs := vs)) (fun i G => G = upd H2 D2 (.lst ((List.replicate i true).map V.bl))) rfl (fun i G _ z => by rw [z]; exact SqT.of (same_upd n2 _ _ ht2)) ?_ ?_
    · rintro i x G G' hi rfl ⟨rfl, hx⟩
      have sm := sm2.trans (same_upd (o := .lst ((List.replicate i true).map V.bl)) n2)
      obtain ⟨d, wd, r, ts, y, us, hd, rfl, rfl, hts, hy, rus, f1, f2⟩ := at_ sm hi hx
      obtain ⟨_, _, e, hsz⟩ := f1.size
      cases e
      have ul := rus.len
      refine ⟨rfl, _, rfl, ts, _, rfl, .inr (SqT.of hts), _, rfl, _, rfl, ts, _, 0, _, rfl, rfl, SqT.of hts, atI_nat (j := 0) rfl, D, .int ((r.length + 1 : Nat) : Int), rfl, ?_, rfl, ?_⟩
      · have g := DGet.k (k := .inr y) (sm _ _ hZ)
        rw [hsz y hy] at g
        exact g
      · have e1 : decide (V.int (((V.str y :: us).length : Nat) : Int) = V.int ((r.length + 1 : Nat) : Int)) = true := by
          rw [List.length_cons, ul]
          exact decide_eq_true rfl
        refine ⟨_, upd_same, nlt (by rw [← vl]; exact hi), ?_⟩
        show upd _ D2 (.lst (_ ++ [V.bl (decide (V.int (((V.str y :: us).length : Nat) : Int) = V.int ((r.length + 1 : Nat) : Int)))])) = _
        rw [e1]
        exact rep_true
    rintro G rfl
    have sm3 : Same H2 (upd H2 D2 (.lst ((List.replicate vs.length true).map V.bl))) := same_upd n2
    refine ⟨D2, _, rfl, SqL.of upd_same, _, rfl, ?_⟩
    rw [all_true]
    refine iteF ?_
    generalize upd H2 D2 (.lst ((List.replicate vs.length true).map V.bl)) = H3 at sm3 ⊢
    have ht3 := sm3 _ _ ht2
    have sm13 := sm2.trans sm3
    refine ⟨_, rfl, t, rfl, ⟨_, SqT.of ht3⟩, fun D3 n3 => ?_⟩
    refine lc_it (walk_tup (K := K) (a := t) (xs := vs)) (fun i G => G D3 = some (.lst ((List.replicate i true).map V.bl)) ∧ Same H3 G) ⟨upd_same, same_upd n3⟩ (fun i G _ z => SqT.of (z.2 _ _ ht3)) ?_ ?_
    · rintro i x G G' hi ⟨hG, smG⟩ ⟨rfl, hx⟩
      obtain ⟨d, wd, r, ts, y, us, hd, rfl, rfl, hts, hy, rus, f1, f2⟩ := at_ (sm13.trans smG) hi hx
      obtain ⟨_, _, e, hl⟩ := f2.lit
      cases e
      have next : ∀ {G2 : Hp}, Same G' G2 → upd G2 D3 (.lst ((List.replicate i true).map V.bl ++ [V.bl true])) D3 = some (.lst ((List.replicate (i + 1) true).map V.bl)) ∧ Same H3 (upd G2 D3 (.lst ((List.replicate i true).map V.bl ++ [V.bl true]))) := fun {G2} smx => by
        refine ⟨?_, fun b o hb => ?_⟩
        · rw [upd_same, List.replicate_succ', List.map_append]
          rfl
        · rw [upd_ne (ne_of_none hb n3)]
          exact smx _ _ (smG _ _ hb)
      refine ⟨rfl, _, rfl, ts, _, 0, _, rfl, rfl, SqT.of hts, atI_nat (j := 0) rfl, rfl, _, rfl, ?_⟩
      refine ite2 (fun _ => ?_) (fun e => ?_)
      · exact ⟨_, hG, nlt (by rw [← vl]; exact hi), next (Same.refl G')⟩
      · have ew : wd = txt "set" := by
          by_cases z : wd = txt "set"
          · exact z
          · refine absurd ?_ e
            show (!decide (V.str y = V.str "set")) = true
            rw [dec_str, hy, cp_set, decide_eq_false z]
            rfl
        obtain ⟨p, v, rfl, av, lv⟩ := hl ew
        cases rus with | cons _ rus => cases rus with | cons r2 rus =>
        refine ⟨_, rfl, ts, _, 2, _, rfl, rfl, SqT.of hts, atI_nat (j := 2) rfl, _, v, rfl, r2, av, lv, fun H' smx => ?_⟩
        exact ⟨_, smx _ _ hG, nlt (by rw [← vl]; exact hi), next smx⟩
    · rintro G ⟨hG, smG⟩
      refine ⟨D3, _, rfl, SqL.of hG, ?_⟩
      rw [all_true]
      exact q _ (sm1.trans (sm13.trans smG))
end
end K9

set_option maxHeartbeats 400000
/-! Small questions asked of nested tuples that go into a set. -/
namespace NS
open PySem PyProof.Rows L2
section
variable {P : Program} {w : World} {A : Around} {E : Value → Shared → Prop} {s : Shared}
theorem atom_cls {n : Nat} {k : NestedKey} {v : Value} {h : Heap} (x : NestedIs h k v) (hk : ∀ ks, k ≠ .tup ks) : ofAClassStatement n v = pure false := by
  cases x with
  | tup _ _ _ _ => exact absurd rfl (hk _)
  | none => cases n <;> rfl
  | bool _ => cases n <;> rfl
  | int _ _ => cases n <;> rfl
  | text _ _ => cases n <;> rfl
theorem all_mem {h : Heap} : ∀ {ks : List NestedKey} {vs : List Value}, NestedAll h ks vs → ∀ v ∈ vs, ∃ k ∈ ks, NestedIs h k v
  | _, _, .nil, v, hv => (List.not_mem_nil hv).elim
  | _, _, .cons x r, v, hv => by
    rcases List.mem_cons.mp hv with rfl | hv
    · exact ⟨_, List.mem_cons_self, x⟩
    · obtain ⟨k, hk, y⟩ := all_mem r v hv
      exact ⟨k, List.mem_cons_of_mem _ hk, y⟩
theorem dep_mem : ∀ {ks : List NestedKey} {n : Nat}, NestedKey.depthAll ks ≤ n → ∀ k ∈ ks, k.depth ≤ n
  | [], _, _, k, hk => (List.not_mem_nil hk).elim
  | a :: r, n, h, k, hk => by
    rw [NestedKey.depthAll] at h
    rcases List.mem_cons.mp hk with rfl | hk
    · omega
    · exact dep_mem (n := n) (by omega) k hk
/-- no statement's class stands in it -/
theorem cls_no : ∀ (n : Nat) {k : NestedKey} {v : Value} {A : Around} {E : Value → Shared → Prop} {Q : Bool → Shared → Prop}, NestedIs s.heap k v → k.depth ≤ n → Q false s → wpAny (model P w) A (ofAClassStatement n v) Q E s
  | n, k, v, A, E, Q, x, hn, q => by
    by_cases c : ∃ ks, k = .tup ks
    · obtain ⟨ks, rfl⟩ := c
      rw [NestedKey.depth] at hn
      obtain ⟨m, rfl⟩ : ∃ m, n = m + 1 := ⟨n - 1, by omega⟩
      cases x with
      | @tup a o vs j _ hg hc hd hk =>
      unfold ofAClassStatement
      refine wpAny_bind (wpAny_typeOf (T := "tuple") ⟨o, hg, hc⟩ ?_)
      have e : (("tuple" : String) == "tuple") = true := by decide
      simp only [e, if_true, Bool.not_true, Bool.false_eq_true, if_false]
      refine wpAny_bind (wpAny_pure ?_)
      simp only [Bool.not_true, Bool.false_eq_true, if_false]
      show wpAny _ _ (seqItems? (.ref a) >>= _) _ _ s
      refine wpAny_bind (wpAny_seqItems hg hd ?_)
      dsimp only
      refine wpAny_bind ?_
      show wpAny _ _ (forIn vs _ _) _ _ s
      rw [← Array.forIn_toList]
      have ih : ∀ v ∈ vs.toList, ∀ {A : Around} {E : Value → Shared → Prop} {Q : Bool → Shared → Prop}, Q false s → wpAny (model P w) A (ofAClassStatement m v) Q E s := fun v hv A E Q q => by
        obtain ⟨k, hm, y⟩ := all_mem hk v hv
        exact cls_no m y (dep_mem (by omega) k hm) q
      refine wpAny_forIn_list _ (fun rest r s' => r.1 = none ∧ s' = s ∧ ∀ v ∈ rest, v ∈ vs.toList) _ ?_ ?_ _ _ ⟨rfl, rfl, fun v hv => hv⟩
      · rintro v rest r s' ⟨hr, rfl, sub⟩
        refine wpAny_bind (ih v (sub v List.mem_cons_self) ?_)
        simp only [Bool.false_eq_true, if_false]
        exact wpAny_pure ⟨rfl, rfl, fun u hu => sub u (List.mem_cons_of_mem _ hu)⟩
      · rintro ⟨r1, r2⟩ s' ⟨hr, rfl, _⟩
        simp only at hr
        subst hr
        exact wpAny_pure q
    · rw [atom_cls x fun ks e => c ⟨ks, e⟩]
      exact wpAny_pure q
/-- its hash comes from its value, or from the text's secret: either -/
theorem hash_any : ∀ (n : Nat) {k : NestedKey} {v : Value} {A : Around} {E : Value → Shared → Prop} {Q : Bool → Shared → Prop}, NestedIs s.heap k v → k.depth ≤ n → (∀ b, Q b s) → wpAny (model P w) A (hashByValue n v) Q E s
  | n, k, v, A, E, Q, x, hn, q => by
    cases x with
    | none =>
      have e : hashByValue n .none = pure true := by cases n <;> rfl
      rw [e]
      exact wpAny_pure (q _)
    | @bool b _ _ =>
      have e : hashByValue n (.bool b) = pure true := by cases n <;> rfl
      rw [e]
      exact wpAny_pure (q _)
    | int i t =>
      have e : hashByValue n (.int i t) = pure true := by cases n <;> rfl
      rw [e]
      exact wpAny_pure (q _)
    | text y t =>
      have e : hashByValue n (.str y t) = pure false := by cases n <;> rfl
      rw [e]
      exact wpAny_pure (q _)
    | @tup a o vs j ks hg hc hd hk =>
      rw [NestedKey.depth] at hn
      obtain ⟨m, rfl⟩ : ∃ m, n = m + 1 := ⟨n - 1, by omega⟩
      have hT : s.TypeIs (.ref a) "tuple" := ⟨o, hg, hc⟩
      unfold hashByValue
      refine wpAny_bind (wpAny_specialOf hT F.slot_tuple_hash.lookup ?_)
      show wpAny _ _ (seqItems? (.ref a) >>= _) _ _ s
      refine wpAny_bind (wpAny_seqItems hg hd ?_)
      refine wpAny_bind ?_
      show wpAny _ _ (forIn vs _ _) _ _ s
      rw [← Array.forIn_toList]
      have ih : ∀ v ∈ vs.toList, ∀ {A : Around} {E : Value → Shared → Prop} {Q : Bool → Shared → Prop}, (∀ b, Q b s) → wpAny (model P w) A (hashByValue m v) Q E s := fun v hv A E Q q => by
        obtain ⟨k, hm, y⟩ := all_mem hk v hv
        exact hash_any m y (dep_mem (by omega) k hm) q
      refine wpAny_forIn_list _ (fun rest r s' => r.1 = none ∧ s' = s ∧ ∀ v ∈ rest, v ∈ vs.toList) _ ?_ ?_ _ _ ⟨rfl, rfl, fun v hv => hv⟩
      · rintro v rest r s' ⟨hr, rfl, sub⟩
        refine wpAny_bind (ih v (sub v List.mem_cons_self) fun b => ?_)
        cases b with
        | false =>
          simp only [Bool.not_false, if_true]
          exact wpAny_pure (wpAny_pure (q _))
        | true =>
          simp only [Bool.not_true, Bool.false_eq_true, if_false]
          exact wpAny_pure ⟨rfl, rfl, fun u hu => sub u (List.mem_cons_of_mem _ hu)⟩
      · rintro ⟨r1, r2⟩ s' ⟨hr, rfl, _⟩
        simp only at hr
        subst hr
        exact wpAny_pure (q _)
end
section
variable {P : Program} {w : World} {A : Around} {E : Value → Shared → Prop} {s : Shared}
/-- the tuple at b is the key k -/
abbrev KAt (P : Program) (w : World) (h : Heap) (k : NestedKey) (b : Addr) : Prop := (nestedKind P w).is h k b
/-- a look for x among such tuples can't be seen -/
theorem seen_no {k : NestedKey} {b : Addr} {Q : Bool → Shared → Prop} (hk : KAt P w s.heap k b) {ys : List Value} (hy : ∀ y ∈ ys, ∃ c k', y = Value.ref c ∧ KAt P w s.heap k' c) (q : Q false s) :
    wpAny (model P w) A (searchCouldBeSeen (.ref b) ys) Q E s := by
  unfold searchCouldBeSeen
  refine wpAny_bind ?_
  refine wpAny_forIn_list _ (fun rest r s' => r.1 = none ∧ s' = s ∧ ∀ y ∈ rest, y ∈ ys) _ ?_ ?_ _ _ ⟨rfl, rfl, fun y h => h⟩
  · rintro v rest r s' ⟨hr, rfl, sub⟩
    obtain ⟨c, k', rfl, hc⟩ := hy v (sub v List.mem_cons_self)
    have more : ∀ y ∈ rest, y ∈ ys := fun u hu => sub u (List.mem_cons_of_mem _ hu)
    dsimp only
    by_cases hv : (b == c || (carriedByValue (.ref b) && carriedByValue (.ref c))) = true
    · exact wp_if_pos hv (wpAny_pure ⟨rfl, rfl, more⟩)
    · refine wp_if_neg hv (wpAny_bind ((nestedKind P w).quiet hk ?_))
      simp only [Bool.not_true, Bool.false_eq_true, if_false]
      refine wpAny_bind ((nestedKind P w).quiet hc ?_)
      simp only [Bool.not_true, Bool.false_eq_true, if_false]
      refine wpAny_bind (cls_no 8 hk.1 hk.2 ?_)
      simp only [Bool.false_eq_true, if_false]
      refine wpAny_bind (cls_no 8 hc.1 hc.2 ?_)
      simp only [Bool.false_eq_true, if_false]
      exact wpAny_pure ⟨rfl, rfl, more⟩
  · rintro ⟨r1, r2⟩ s' ⟨hr, rfl, _⟩
    simp only at hr
    subst hr
    exact wpAny_pure q
/-! ### a set of nested tuples -/
abbrev hk (w : World) (p : Addr × NestedKey) : Int := p.2.hash w
/-- what stands in the table for the keys L -/
def rows (w : World) (L : List (Addr × NestedKey)) : List (Int × Value) := L.map fun p => (hk w p, Value.ref p.1)
structure Tab (P : Program) (w : World) (h : Heap) (a : Addr) (L : List (Addr × NestedKey)) (o : Obj) (es : Array (Int × Value)) (ep : Nat) (t : SetTable) : Prop where
  ho : h.get? a = some o
  hx : o.ExactSet
  hd : o.data = .set es ep t
  hr : es.toList = rows w L
  ht : TabOk t (L.map (hk w))
  nd : (L.map (·.2)).Nodup
  ks : ∀ p ∈ L, KAt P w h p.2 p.1
  fill : L.length * 5 < t.mask * 3
  few : L.length < 64
variable {a : Addr} {L : List (Addr × NestedKey)} {o : Obj} {es : Array (Int × Value)} {ep : Nat} {t : SetTable}
theorem Tab.size (T : Tab P w s.heap a L o es ep t) : es.size = L.length := by
  have := congrArg List.length T.hr
  rwa [Array.length_toList, rows, List.length_map] at this
theorem Tab.placed (T : Tab P w s.heap a L o es ep t) : t.place.size = L.length := by
  have := T.ht.sz
  rwa [List.length_map] at this
theorem fits_of {n : Nat} (h1 : t.place.size = n) (h2 : t.dummies = #[]) (h3 : n ≤ t.mask) : t.fits n = true := by
  unfold SetTable.fits SetTable.fill
  rw [h1, h2, Bool.and_eq_true, beq_iff_eq, decide_eq_true_eq]
  exact ⟨rfl, h3⟩
theorem Tab.fits (T : Tab P w s.heap a L o es ep t) : t.fits es.size = true := by
  have := T.fill
  rw [T.size]
  exact fits_of T.placed T.ht.dm (by omega)
theorem Tab.row (T : Tab P w s.heap a L o es ep t) {i : Nat} {p : Addr × NestedKey} (h : L[i]? = some p) : es[i]? = some (hk w p, Value.ref p.1) := by
  have e : es[i]? = es.toList[i]? := (Array.getElem?_toList ..).symm
  rw [e, T.hr, rows, List.getElem?_map, h]
  rfl
theorem Tab.own (T : Tab P w s.heap a L o es ep t) : ¬ t.gaveWay = true := by
  unfold SetTable.gaveWay
  have := mask_odd T.ht.mok
  simp [this]
end
end NS

set_option maxHeartbeats 400000
/-! Looking a nested tuple up in a set of such. -/
namespace NS
open PySem PyProof.Rows L2
section
variable {P : Program} {w : World} {A : Around} {E : Value → Shared → Prop} {s : Shared}
variable {a : Addr} {L : List (Addr × NestedKey)} {o : Obj} {es : Array (Int × Value)} {ep : Nat} {t : SetTable}
/-- where the look for the hash h is after c steps -/
def step (m : Nat) (h : Int) (c : Nat) : SetTable.Probe := nth m (runAt m (SetTable.bits h % (m + 1)) (SetTable.bits h)) c
theorem step_add (m : Nat) (h : Int) (c q : Nat) : nth m (step m h c) q = step m h (c + q) := (nth_add m c _ q).symm
theorem step_way (m : Nat) (h : Int) (c : Nat) : (step m h c).j = way m h c := rfl
theorem nth_clean (m : Nat) : ∀ (n : Nat) (p : SetTable.Probe), p.dummy = none → (nth m p n).dummy = none
  | 0, _, h => h
  | n + 1, p, h => by
    refine nth_clean m n (adv m p) ?_
    unfold adv
    split <;> exact h
theorem step_clean (m : Nat) (h : Int) (c : Nat) : (step m h c).dummy = none := nth_clean m c _ rfl
theorem live_inj (r : Ris t.place.toList) {i i' j : Nat} (h : t.place.toList[i]? = some j) (h' : t.place.toList[i']? = some j) : i = i' := by
  have e := (slot_live r h).symm.trans (slot_live r h')
  injection e
/-- what is behind a candidate whose key is p's -/
theorem behind (T : Tab P w s.heap a L o es ep t) {x : Addr} {k : NestedKey} (hx : KAt P w s.heap k x) (hu : A.units + 8 < cLine) {i j f : Nat} {p : Addr × NestedKey} {nx : SetTable.Probe} {Q : SetFound → Shared → Prop}
    (hp : L[i]? = some p) (hj : t.place.toList[i]? = some j) (yes : p.2 = k → Q (.there none) s) (no : p.2 ≠ k → wpAny (model P w) A (setSearchFrom a (.ref x) (k.hash w) true f (some nx)) Q E s) :
    wpAny (model P w) A (searchRest a (.ref x) (k.hash w) true f es t j i nx) Q E s := by
  unfold searchRest
  rw [T.row hp]
  dsimp only
  refine wpAny_bind (wpAny_holding ((nestedKind P w).eqBool hu (T.ks p (List.mem_of_getElem? hp)) hx ?_))
  refine wpAny_bind (wpAny_setState_of T.ho T.hd T.fits ?_)
  dsimp only
  by_cases e : p.2 = k
  · exact wp_if_pos (by simp [e]) (wpAny_pure (yes e))
  · refine wp_if_neg (by simp [e]) ?_
    rw [sameMem]
    dsimp only
    simp only [if_true, slot_live T.ht.ris hj, T.row hp]
    refine wpAny_bind (wpAny_isSame_ref_self (wpAny_bind (wpAny_pure ?_)))
    simp only [if_true]
    exact wp_if_neg (by simp [e]) (no e)
theorem look (T : Tab P w s.heap a L o es ep t) {x : Addr} {k : NestedKey} (hx : KAt P w s.heap k x) (hu : A.units + 8 < cLine) {K : Nat} (lim : K < 10 * SetTable.turns t.mask)
    (free : way t.mask (k.hash w) K ∉ t.place.toList) (full : ∀ c, c < K → way t.mask (k.hash w) c ∈ t.place.toList) {Q : SetFound → Shared → Prop}
    (yes : k ∈ L.map (·.2) → Q (.there none) s) (no : k ∉ L.map (·.2) → Q (.free (way t.mask (k.hash w) K) false) s) :
    ∀ (f c : Nat) (from_ : Option SetTable.Probe), from_.getD (t.probeStart (k.hash w)) = step t.mask (k.hash w) c → c ≤ K → K < c + f →
      (∀ (i : Nat) p, L[i]? = some p → p.2 = k → ∃ c', c ≤ c' ∧ c' < K ∧ t.place.toList[i]? = some (way t.mask (k.hash w) c')) →
      wpAny (model P w) A (setSearchFrom a (.ref x) (k.hash w) true f from_) Q E s
  | 0, c, _, _, h1, h2, _ => absurd h2 (by omega)
  | f + 1, c, from_, at_, h1, h2, ahead => by
    rw [setSearchFrom_succ]
    refine wpAny_bind (wpAny_setState_of T.ho T.hd T.fits ?_)
    dsimp only
    refine wp_if_neg T.own ?_
    have hashes : ∀ (i : Nat) p, L[i]? = some p → (fun i => (es[i]?.map (·.1)).getD 0) i = hk w p := fun i p hp => by
      show (es[i]?.map (·.1)).getD 0 = _
      rw [T.row hp]
      rfl
    have inL : ∀ {i j : Nat}, t.place.toList[i]? = some j → ∃ p, L[i]? = some p := fun {i j} h => by
      have h1 := (List.getElem?_eq_some_iff.mp h).1
      rw [Array.length_toList, T.placed] at h1
      exact ⟨_, List.getElem?_eq_getElem h1⟩
    have wj : ∀ q, (nth t.mask (step t.mask (k.hash w) c) q).j = way t.mask (k.hash w) (c + q) := fun q => by rw [step_add, step_way]
    rcases go_spec t T.ht.ris T.ht.dm (fun i => (es[i]?.map (·.1)).getD 0) (k.hash w) (10 * SetTable.turns t.mask) (K - c) (step t.mask (k.hash w) c) (step_clean ..) (by omega)
      (fun q hq => by rw [wj]; exact full _ (by omega)) (by rw [wj, show c + (K - c) = K by omega]; exact free) with ⟨q, i, hq, hi, hh, clear_, go⟩ | ⟨clear_, go⟩
    · have e : t.probe (fun i => (es[i]?.map (·.1)).getD 0) (k.hash w) (from_.getD (t.probeStart (k.hash w))) = some (.candidate (way t.mask (k.hash w) (c + q)) i (step t.mask (k.hash w) (c + (q + 1)))) := by
        rw [at_, ← wj, ← step_add]
        exact go
      rw [e]
      dsimp only
      rw [wj] at hi
      obtain ⟨p, hp⟩ := inL hi
      have on : wpAny (model P w) A (searchRest a (.ref x) (k.hash w) true f es t (way t.mask (k.hash w) (c + q)) i (step t.mask (k.hash w) (c + (q + 1)))) Q E s := by
        refine behind T hx hu hp hi (fun e => yes (List.mem_map.mpr ⟨p, List.mem_of_getElem? hp, e⟩)) fun ne => ?_
        refine look T hx hu lim free full yes no f (c + (q + 1)) _ rfl (by omega) (by omega) fun i0 p0 h0 e0 => ?_
        obtain ⟨c', g1, g2, g3⟩ := ahead i0 p0 h0 e0
        refine ⟨c', ?_, g2, g3⟩
        rcases Nat.lt_trichotomy c' (c + q) with z | z | z
        · refine absurd ((hashes i0 p0 h0).trans (congrArg (NestedKey.hash w) e0)) ?_
          refine clear_ (c' - c) i0 (by omega) ?_
          rw [wj, show c + (c' - c) = c' by omega]
          exact g3
        · rw [z] at g3
          have ei := live_inj T.ht.ris g3 hi
          rw [ei, hp] at h0
          exact absurd ((congrArg Prod.snd (Option.some.inj h0)).trans e0) ne
        · omega
      by_cases hl : t.led = true
      · exact wp_if_neg (by simp [hl]) on
      · refine wp_if_pos (by simp [hl]) (wpAny_bind (seen_no hx (fun y hy => ?_) (wp_if_neg (by decide) on)))
        obtain ⟨r, hr, rfl⟩ := List.mem_map.mp hy
        have hr : r ∈ es.toList := by
          have : r ∈ es ∧ r.1 = k.hash w := by simpa using hr
          simpa using this.1
        rw [T.hr] at hr
        obtain ⟨p2, m2, rfl⟩ := List.mem_map.mp hr
        exact ⟨p2.1, p2.2, rfl, T.ks p2 m2⟩
    · have e : t.probe (fun i => (es[i]?.map (·.1)).getD 0) (k.hash w) (from_.getD (t.probeStart (k.hash w))) = some (.empty (way t.mask (k.hash w) K) none) := by
        have ek : way t.mask (k.hash w) K = (nth t.mask (step t.mask (k.hash w) c) (K - c)).j := by rw [wj, show c + (K - c) = K by omega]
        rw [at_, ek]
        exact go
      rw [e]
      dsimp only
      refine wpAny_pure (no fun hm => ?_)
      obtain ⟨p0, m0, e0⟩ := List.mem_map.mp hm
      obtain ⟨i0, l0, g0⟩ := List.getElem_of_mem m0
      have h0 : L[i0]? = some p0 := by rw [List.getElem?_eq_getElem l0, g0]
      obtain ⟨c', g1, g2, g3⟩ := ahead i0 p0 h0 e0
      refine clear_ (c' - c) i0 (by omega) ?_ ((hashes i0 p0 h0).trans (congrArg (NestedKey.hash w) e0))
      rw [wj, show c + (c' - c) = c' by omega]
      exact g3
/-- as adding asks -/
theorem look_add (T : Tab P w s.heap a L o es ep t) {x : Addr} {k : NestedKey} (hx : KAt P w s.heap k x) (hu : A.units + 8 < cLine) {Q : SetFound → Shared → Prop}
    (yes : k ∈ L.map (·.2) → Q (.there none) s)
    (no : ∀ K, k ∉ L.map (·.2) → way t.mask (k.hash w) K ∉ t.place.toList → (∀ c, c < K → way t.mask (k.hash w) c ∈ t.place.toList) → Q (.free (way t.mask (k.hash w) K) false) s) :
    wpAny (model P w) A (setSearch a (.ref x) (k.hash w) true) Q E s := by
  have fl := T.fill
  obtain ⟨K, lim, free, full⟩ := T.ht.first (by rw [List.length_map]; omega) (k.hash w)
  have big : K < 100000 := by
    have : 10 * SetTable.turns t.mask ≤ 1420 := by
      unfold SetTable.turns
      rcases T.ht.mok with e | e | e <;> omega
    omega
  unfold setSearch
  refine look T hx hu lim free full yes (fun h => no K h free full) 100000 0 none rfl (Nat.zero_le _) (by omega) fun i p hp e => ?_
  have hh : (L.map (hk w))[i]? = some (k.hash w) := by rw [List.getElem?_map, hp, ← e]; rfl
  have il : i < t.place.toList.length := by
    have := (List.getElem?_eq_some_iff.mp hp).1
    rw [Array.length_toList, T.placed]
    exact this
  have hj := List.getElem?_eq_getElem il
  obtain ⟨c, hc, ec⟩ := T.ht.before free hh hj
  exact ⟨c, Nat.zero_le _, hc, by rw [hj, ec]⟩
end
end NS

set_option maxHeartbeats 400000
/-! Adding a nested tuple to a set of such. -/
namespace NS
open PySem PyProof.Rows L2
section
variable {P : Program} {w : World} {A : Around} {E : Value → Shared → Prop} {s : Shared}
variable {a : Addr} {L : List (Addr × NestedKey)} {o : Obj} {es : Array (Int × Value)} {ep : Nat} {t : SetTable}
theorem stays {h h' : Heap} {k : NestedKey} {b : Addr} (x : KAt P w h k b) (keep : ∀ c o, h.get? c = some o → h'.get? c = some o) : KAt P w h' k b :=
  ⟨NestedIs.at (fun c o _ _ e _ => keep c o e) _ _ x.1, x.2⟩
/-- a write to the set leaves the tuples -/
theorem apart {h h' : Heap} {k : NestedKey} {b : Addr} (x : KAt P w h k b) (ho : h.get? a = some o) (hd : o.data = .set es ep t) (sb : Heap.SameBut a h h') : KAt P w h' k b :=
  ⟨NestedIs.at (fun c o' _ _ e e2 => by
    refine (sb.2 c fun z => ?_).trans e
    subst z
    rw [ho] at e
    cases e
    rw [hd] at e2
    cases e2) _ _ x.1, x.2⟩
theorem all_there {α : Type} (L : List α) : ∀ n, n ≤ L.length → (List.range n).filterMap (fun i => L[i]?) = L.take n
  | 0, _ => rfl
  | n + 1, h => by
    rw [List.range_succ, List.filterMap_append, all_there L n (by omega), List.take_add_one]
    have e : L[n]? = some L[n] := List.getElem?_eq_getElem h
    rw [e, List.filterMap_cons_some e]
    rfl
/-- the rows in another order -/
theorem reorder (hr : es.toList = rows w L) {od : Array Nat} (hp : od.toList.Perm (List.range L.length)) :
    ∃ M, (od.filterMap (es[·]?)).toList = rows w M ∧ M.Perm L ∧ M.map (hk w) = od.toList.map fun i => (es.map (·.1)).getD i 0 := by
  have row : ∀ i, es[i]? = (L[i]?).map fun p => (hk w p, Value.ref p.1) := fun i => by
    have e : es[i]? = es.toList[i]? := (Array.getElem?_toList ..).symm
    rw [e, hr, rows, List.getElem?_map]
  have inb : ∀ i ∈ od.toList, i < L.length := fun i hi => List.mem_range.mp (hp.mem_iff.mp hi)
  refine ⟨od.toList.filterMap fun i => L[i]?, ?_, ?_, ?_⟩
  · have e1 : (od.filterMap (es[·]?)).toList = od.toList.filterMap fun i => es[i]? := by simp
    rw [e1, rows, List.map_filterMap]
    exact congrArg (fun f => List.filterMap f od.toList) (funext row)
  · have := hp.filterMap fun i => L[i]?
    rwa [all_there L _ (Nat.le_refl _), List.take_length] at this
  · rw [List.map_filterMap]
    generalize od.toList = l at inb
    induction l with
    | nil => rfl
    | cons i l ih =>
      have hi := inb i List.mem_cons_self
      have e : L[i]? = some L[i] := List.getElem?_eq_getElem hi
      have e2 : (L[i]?).map (hk w) = some (hk w L[i]) := by rw [e]; rfl
      rw [List.filterMap_cons_some (f := fun x => Option.map (hk w) L[x]?) e2, List.map_cons, ih fun j hj => inb j (List.mem_cons_of_mem _ hj)]
      congr 1
      have e3 : (es.map (·.1))[i]? = some (hk w L[i]) := by rw [Array.getElem?_map, row, e]; rfl
      rw [Array.getD_eq_getD_getElem?, e3]
      rfl
/-- the set's table laid anew -/
theorem larger (ho : s.heap.get? a = some o) (hx : o.ExactSet) (hd : o.data = .set es ep t) (hr : es.toList = rows w L) (hp : t.place.size = L.length) (hm : t.dummies = #[]) (hl : L.length ≤ t.mask)
    (nd : (L.map (·.2)).Nodup) (ks : ∀ p ∈ L, KAt P w s.heap p.2 p.1) (few : L.length < 64) {n M : Nat} (e1 : SetTable.sizeAbove n - 1 = M) (e2 : MaskOk M) (e3 : SetTable.sizeAbove n ≤ 128) (e4 : L.length * 5 < M * 3) {Q : Unit → Shared → Prop}
    (q : ∀ h' L' o' es' ep' t', Heap.SameBut a s.heap h' → Tab P w h' a L' o' es' ep' t' → L'.Perm L → Q () { s with heap := h' }) : wpAny (model P w) A (setRelay a n) Q E s := by
  have sz : es.size = L.length := by
    have := congrArg List.length hr
    rwa [Array.length_toList, rows, List.length_map] at this
  obtain ⟨t', od, re, pe, T', m', _, _, _⟩ := relaid_ok t (hs := es.map (·.1)) (wanted := n) e1 e2 (by rw [Array.size_map, sz]; omega)
  rw [Array.size_map, sz] at pe
  obtain ⟨M', r1, r2, r3⟩ := reorder hr pe
  rw [← r3] at T'
  have sz' : (od.filterMap (es[·]?)).size = L.length := by
    have := congrArg List.length r1
    rwa [Array.length_toList, rows, List.length_map, r2.length_eq] at this
  have line : (128 : Nat) ≤ sizeLine := by decide
  rw [setRelay_eq]
  refine wpAny_bind (wpAny_setState_of ho hd (by rw [sz]; exact fits_of hp hm hl) ?_)
  dsimp only
  refine wp_if_neg (by omega) ?_
  rw [re]
  dsimp only
  refine wpAny_bind (wp_if_neg (by rw [sz', sz]; simp) (wpAny_pure ?_))
  dsimp only
  refine wpAny_storeSet_of ho hd ?_ (by rw [sz']; omega)
  have sb : Heap.SameBut a s.heap (s.heap.update a (Obj.putSet (od.filterMap (es[·]?)) t')) := Heap.SameBut.update ..
  exact q _ M' _ _ _ t' sb ⟨store_at ho hd, ⟨hx.1, hx.2.1, hx.2.2⟩, rfl, r1, T', (r2.map (·.2)).nodup_iff.mpr nd, fun p pm => apart (ks p (r2.mem_iff.mp pm)) ho hd sb, by rw [r2.length_eq, m']; exact e4, by rw [r2.length_eq]; exact few⟩ r2
theorem rows_at (p : Nat) (x : Addr) (k : NestedKey) : rows w (L.take p ++ (x, k) :: L.drop p) = (rows w L).take p ++ (k.hash w, Value.ref x) :: (rows w L).drop p := by
  simp [rows, hk]
theorem tab_plain {t : SetTable} {hs : List Int} (T : TabOk t hs) : TabOk { t with plain := false } hs := ⟨T.ris, T.dm, T.sz, T.mok, T.bd, T.reach⟩
theorem put_in (T : Tab P w s.heap a L o es ep t) {x : Addr} {k : NestedKey} (hx : KAt P w s.heap k x) (few : L.length + 1 < 64) (new : k ∉ L.map (·.2)) {K : Nat}
    (free : way t.mask (k.hash w) K ∉ t.place.toList) (full : ∀ c, c < K → way t.mask (k.hash w) c ∈ t.place.toList) {t1 : SetTable} {p : Nat} (put : t.put (way t.mask (k.hash w) K) = (t1, p)) {t2 : SetTable} (h2 : t2 = t1 ∨ t2 = { t1 with plain := false }) {Q : Bool → Shared → Prop}
    (q : ∀ h' L' o' es' ep' t', Heap.SameBut a s.heap h' → Tab P w h' a L' o' es' ep' t' → L'.Perm ((x, k) :: L) → Q true { s with heap := h' }) :
    wpAny (model P w) A (storeSet a (SetTable.insertAt es p (k.hash w, .ref x)) t2 >>= fun _ => if (!false && t2.tooFull) = true then (setRelay a (SetTable.grown (es.size + 1)) >>= fun _ => pure true) else pure true) Q E s := by
  obtain ⟨q1, q2, q3, q4, _, _, _, _, q9⟩ := T.ht.put free full
  rw [put] at q1 q3 q4 q9
  simp only at q1 q3 q4 q9
  have le := T.fill
  have pm : (L.take p ++ (x, k) :: L.drop p).Perm ((x, k) :: L) := put_perm L p (x, k)
  have ln : (L.take p ++ (x, k) :: L.drop p).length = L.length + 1 := pm.length_eq
  have er : (SetTable.insertAt es p (k.hash w, Value.ref x)).toList = rows w (L.take p ++ (x, k) :: L.drop p) := by
    rw [SetTable.toList_insertAt, rows_at, T.hr]
  have T1 : TabOk t1 ((L.take p ++ (x, k) :: L.drop p).map (hk w)) := by
    have e : (L.take p ++ (x, k) :: L.drop p).map (hk w) = (L.map (hk w)).take p ++ k.hash w :: (L.map (hk w)).drop p := by simp [hk]
    rw [e, q1]
    exact q3
  have T2 : TabOk t2 ((L.take p ++ (x, k) :: L.drop p).map (hk w)) := by
    rcases h2 with rfl | rfl
    · exact T1
    · exact tab_plain T1
  have m2 : t2.mask = t.mask := by
    rcases h2 with rfl | rfl <;> exact q4
  have f2 : t2.fill = L.length + 1 := by
    rw [List.length_map] at q9
    rcases h2 with rfl | rfl <;> exact q9
  have nd1 : ((L.take p ++ (x, k) :: L.drop p).map (·.2)).Nodup := by
    refine (pm.map (·.2)).nodup_iff.mpr ?_
    rw [List.map_cons]
    exact List.nodup_cons.mpr ⟨new, T.nd⟩
  have sz : (SetTable.insertAt es p (k.hash w, Value.ref x)).size = L.length + 1 := by
    have := congrArg List.length er
    rwa [Array.length_toList, rows, List.length_map, ln] at this
  have line : (128 : Nat) ≤ sizeLine := by decide
  generalize SetTable.insertAt es p (k.hash w, Value.ref x) = es1 at er sz ⊢
  generalize L.take p ++ (x, k) :: L.drop p = L1 at pm ln er T2 nd1
  refine wpAny_bind (wpAny_storeSet_of T.ho T.hd ?_ (by rw [sz]; omega))
  have sb : Heap.SameBut a s.heap (s.heap.update a (Obj.putSet es1 t2)) := Heap.SameBut.update ..
  have ho1 := store_at (es' := es1) (t' := t2) T.ho T.hd
  generalize s.heap.update a (Obj.putSet es1 t2) = h1 at sb ho1 ⊢
  have ks1 : ∀ p ∈ L1, KAt P w h1 p.2 p.1 := fun p hp => by
    rcases List.mem_cons.mp (pm.mem_iff.mp hp) with rfl | hp
    · exact apart hx T.ho T.hd sb
    · exact apart (T.ks p hp) T.ho T.hd sb
  have pl : t2.place.size = L1.length := by
    have := T2.sz
    rwa [List.length_map] at this
  have go : ∀ M, SetTable.sizeAbove (SetTable.grown (L.length + 1)) - 1 = M → MaskOk M → SetTable.sizeAbove (SetTable.grown (L.length + 1)) ≤ 128 → (L.length + 1) * 5 < M * 3 →
      wpAny (model P w) A (setRelay a (SetTable.grown (L.length + 1))) (fun _ s' => wpAny (model P w) A (pure true) Q E s') E { s with heap := h1 } := fun M e1 e2 e3 e4 => by
    refine larger (s := { s with heap := h1 }) ho1 ⟨T.hx.1, T.hx.2.1, T.hx.2.2⟩ rfl er pl T2.dm (by rw [m2]; omega) nd1 ks1 (by omega) e1 e2 e3 (by rw [ln]; exact e4) ?_
    intro h' L' o' es' ep' t' sb' T' pm'
    exact wpAny_pure (q h' L' o' es' ep' t' (sb.trans sb') T' (pm'.trans pm))
  by_cases hf : t2.tooFull = true
  · have full_ : (L.length + 1) * 5 ≥ t2.mask * 3 := by
      unfold SetTable.tooFull at hf
      rw [decide_eq_true_eq, f2] at hf
      exact hf
    have two : L.length = 4 ∨ L.length = 18 := by
      rw [m2] at full_
      rcases T.ht.mok with e | e | e <;> rw [e] at full_ le <;> omega
    refine wp_if_pos (by simp [hf]) (wpAny_bind ?_)
    rw [T.size]
    rcases two with e | e
    · exact go 31 (by rw [e, size_20]) (.inr (.inl rfl)) (by rw [e, size_20]; decide) (by omega)
    · exact go 127 (by rw [e, size_76]) (.inr (.inr rfl)) (by rw [e, size_76]; decide) (by omega)
  · refine wp_if_neg (by simp [hf]) (wpAny_pure ?_)
    refine q h1 L1 _ es1 (ep + 1) t2 sb ⟨ho1, ⟨T.hx.1, T.hx.2.1, T.hx.2.2⟩, rfl, er, T2, nd1, ks1, ?_, by omega⟩ pm
    unfold SetTable.tooFull at hf
    rw [decide_eq_true_eq, f2] at hf
    omega
/-- adding -/
theorem add (T : Tab P w s.heap a L o es ep t) {x : Addr} {k : NestedKey} (hx : KAt P w s.heap k x) (hu : A.units + 8 < cLine) (few : L.length + 1 < 64) {Q : Bool → Shared → Prop}
    (q : ∀ b h' L' o' es' ep' t', Heap.SameBut a s.heap h' → Tab P w h' a L' o' es' ep' t' → (k ∈ L.map (·.2) → L' = L) → (k ∉ L.map (·.2) → L'.Perm ((x, k) :: L)) → Q b { s with heap := h' }) :
    wpAny (model P w) A (setAddHashed a (.ref x) (k.hash w)) Q E s := by
  unfold setAddHashed
  refine wpAny_holding ?_
  rw [show (100000 : Nat) = 99999 + 1 from rfl, setAddHashedIn_succ]
  refine wpAny_bind (wpAny_setState_of T.ho T.hd T.fits ?_)
  dsimp only
  refine wp_if_neg (by simp [byScan, Value.scannable]) ?_
  refine wpAny_bind (look_add T hx hu (fun hm => ?_) fun K new free full => ?_)
  · dsimp only
    exact wpAny_pure (q false s.heap L o es ep t (Heap.SameBut.refl a s.heap) T (fun _ => rfl) fun z => absurd hm z)
  · dsimp only
    refine wpAny_bind (wpAny_setState_of T.ho T.hd T.fits ?_)
    dsimp only
    cases hpt : t.put (way t.mask (k.hash w) K) with
    | mk t1 p =>
    dsimp only
    have fin : ∀ (t2 : SetTable), t2 = t1 ∨ t2 = { t1 with plain := false } → wpAny (model P w) A (storeSet a (SetTable.insertAt es p (k.hash w, .ref x)) t2 >>= fun _ => if (!false && t2.tooFull) = true then (setRelay a (SetTable.grown (es.size + 1)) >>= fun _ => pure true) else pure true) Q E s := fun t2 h2 =>
      put_in T hx few new free full hpt h2 fun h' L' o' es' ep' t' sb T' pm => q true h' L' o' es' ep' t' sb T' (fun z => absurd z new) fun _ => pm
    by_cases hpl : t1.plain = true
    · refine wp_if_pos hpl (wpAny_bind (hash_any 8 hx.1 hx.2 fun b => ?_))
      cases b with
      | true => exact fin t1 (.inl rfl)
      | false => exact fin _ (.inr rfl)
    · exact wp_if_neg hpl (wpAny_bind (wpAny_pure (fin t1 (.inl rfl))))
end
end NS

set_option maxHeartbeats 400000
/-! set(xs) of a list of nested tuples. -/
namespace NS
open PySem PyProof.Rows L2
/-- what has come of the first i of the keys ks -/
structure Come (ks : List (Addr × NestedKey)) (i : Nat) (L : List (Addr × NestedKey)) : Prop where
  sub : ∀ p ∈ L, p ∈ ks.take i
  all : ∀ p ∈ ks.take i, p.2 ∈ L.map (·.2)
  len : L.length ≤ i
theorem Come.step {ks L L' : List (Addr × NestedKey)} {i : Nat} {x : Addr × NestedKey} (c : Come ks i L) (h : ks[i]? = some x) (old : x.2 ∈ L.map (·.2) → L' = L) (new : x.2 ∉ L.map (·.2) → L'.Perm (x :: L)) : Come ks (i + 1) L' := by
  have e : ks.take (i + 1) = ks.take i ++ [x] := by rw [List.take_add_one, h]; rfl
  by_cases z : x.2 ∈ L.map (·.2)
  · rw [old z]
    refine ⟨fun p hp => by rw [e]; exact List.mem_append_left _ (c.sub p hp), fun p hp => ?_, Nat.le_succ_of_le c.len⟩
    rw [e] at hp
    rcases List.mem_append.mp hp with y | y
    · exact c.all p y
    · rw [List.mem_singleton.mp y]
      exact z
  · have pm := new z
    refine ⟨fun p hp => ?_, fun p hp => ?_, by rw [pm.length_eq, List.length_cons]; exact Nat.succ_le_succ c.len⟩
    · rw [e]
      rcases List.mem_cons.mp (pm.mem_iff.mp hp) with rfl | y
      · exact List.mem_append_right _ (List.mem_singleton.mpr rfl)
      · exact List.mem_append_left _ (c.sub p y)
    · rw [(pm.map (·.2)).mem_iff, List.map_cons]
      rw [e] at hp
      rcases List.mem_append.mp hp with y | y
      · exact List.mem_cons_of_mem _ (c.all p y)
      · rw [List.mem_singleton.mp y]
        exact List.mem_cons_self
section
variable {P : Program} {w : World} {A : Around} {E : Value → Shared → Prop} {s : Shared}
theorem Tab.on {h h' : Heap} {a : Addr} {L : List (Addr × NestedKey)} {o : Obj} {es : Array (Int × Value)} {ep : Nat} {t : SetTable} (T : Tab P w h a L o es ep t) (ha : h'.get? a = some o) (hk : ∀ p ∈ L, KAt P w h' p.2 p.1) : Tab P w h' a L o es ep t :=
  ⟨ha, T.hx, T.hd, T.hr, T.ht, T.nd, hk, T.fill, T.few⟩
/-- the model's new set -/
abbrev emp (led : Bool) : Obj := { cls := .type "set", dict := none, data := .set #[] 0 (.fresh 0 0 led) }
theorem tab_new {h : Heap} {a : Addr} {led : Bool} (ho : h.get? a = some (emp led)) : Tab P w h a [] (emp led) #[] 0 (.fresh 0 0 led) where
  ho := ho
  hx := ⟨rfl, rfl, rfl⟩
  hd := rfl
  hr := rfl
  ht := ⟨List.Pairwise.nil, rfl, rfl, .inl rfl, (fun x hx => by cases hx), fun i h j hi => by simp at hi⟩
  nd := List.nodup_nil
  ks := fun p hp => (List.not_mem_nil hp).elim
  fill := by show 0 * 5 < 7 * 3; decide
  few := by show 0 < 64; decide
/-- some set of L at a -/
def Has (P : Program) (w : World) (h : Heap) (a : Addr) (L : List (Addr × NestedKey)) : Prop := ∃ o es ep t, Tab P w h a L o es ep t
/-- the loop that fills it -/
theorem filling {I : Addr} {fp wr : List Addr} {G : Array GenState → Array GenState → Prop} {n : Nat} {Pv : Nat → Value → Prop} {St : Nat → Shared → Prop} {R : Result → Shared → Prop}
    (W : WalksS P w A.in1 I fp wr G n Pv St) (S : Addr) (hS : S ∉ fp) (ks : List (Addr × NestedKey)) (hn : n = ks.length) (few : ks.length < 64) (val : ∀ i v, Pv i v → ∃ p, ks[i]? = some p ∧ v = .ref p.1)
    (h0 : Heap) (k0 : ∀ p ∈ ks, KAt P w h0 p.2 p.1) (hS0 : h0.get? S = none) (hw0 : ∀ b ∈ wr, h0.get? b = none) (hu : A.units + 9 < cLine) :
    ∀ (m i : Nat) (s : Shared) (L : List (Addr × NestedKey)), n - i = m → i ≤ n → St i s → (∀ b o, h0.get? b = some o → s.heap.get? b = some o) → Has P w s.heap S L → Come ks i L →
      (∀ s' L', Moved (S :: wr) G s s' → Has P w s'.heap S L' → Come ks n L' → (∀ b o, h0.get? b = some o → s'.heap.get? b = some o) → R (.ok (.ret .none)) s') →
      codeAny (model P w) A (.builtin "set.update.loop" ⟨[.ref S, .ref I], []⟩) R s := by
  have hSw : S ∉ wr := fun h => hS (W.sub _ h)
  have wider : ∀ b ∈ wr, b ∈ S :: wr := fun b hb => List.mem_cons_of_mem _ hb
  have old : ∀ {s s' : Shared}, Moved wr G s s' → (∀ b o, h0.get? b = some o → s.heap.get? b = some o) → ∀ b o, h0.get? b = some o → s'.heap.get? b = some o := fun hm z b o e =>
    hm.heap b o (fun hb => by rw [hw0 b hb] at e; cases e) (z b o e)
  intro m
  induction m with
  | zero =>
    intro i s L hm hi st kp ⟨o, es, ep, t, T⟩ c q
    obtain rfl : i = n := by omega
    refine codeAny_builtin F.entry_set_update_loop ?_
    rw [Around.under_plainId F.plain_set_update_loop _]
    show wpAny _ A.in1 (pyNext (.ref I) >>= _) _ _ s
    refine wpAny_bind (W.done s _ _ st fun s' mv => ?_)
    show wpAny _ A.in1 (ret Value.none) _ _ s'
    have kp' := old mv kp
    exact wpAny_pure (q s' L (mv.mono wider) ⟨o, es, ep, t, T.on (mv.heap S o hSw T.ho) fun p hp => stays (k0 p (List.mem_of_mem_take (c.sub p hp))) kp'⟩ c kp')
  | succ m ih =>
    intro i s L hm hi st kp ⟨o, es, ep, t, T⟩ c q
    have lt : i < n := by omega
    refine codeAny_builtin F.entry_set_update_loop ?_
    rw [Around.under_plainId F.plain_set_update_loop _]
    show wpAny _ A.in1 (pyNext (.ref I) >>= _) _ _ s
    refine wpAny_bind (W.item i s _ _ lt st fun v s' hP st' mv => ?_)
    obtain ⟨p, hp, rfl⟩ := val i v hP
    have kp' := old mv kp
    have T' : Tab P w s'.heap S L o es ep t := T.on (mv.heap S o hSw T.ho) fun p hp => stays (k0 p (List.mem_of_mem_take (c.sub p hp))) kp'
    have hx : KAt P w s'.heap p.2 p.1 := stays (k0 p (List.mem_of_getElem? hp)) kp'
    show wpAny _ A.in1 (holding [Value.ref p.1] (setAdd S (.ref p.1)) >>= _) _ _ s'
    refine wpAny_bind (wpAny_holding ?_)
    unfold setAdd
    refine wpAny_holding (wpAny_bind ((nestedKind P w).pyHash (show A.in1.units + 8 < cLine by simp only [Around.in1_units]; omega) hx ?_))
    refine add (s := { s' with toks := s'.toks + (nestedKind P w).draws p.2 }) (o := o) (es := es) (ep := ep) (t := t) T' hx (by simp only [Around.in1_units]; omega) (by have := c.len; omega) fun b h' L' o' es' ep' t' sb T2 c1 c2 => ?_
    have kp2 : ∀ b o, h0.get? b = some o → h'.get? b = some o := fun b o e => (sb.2 b (fun z => by rw [z, hS0] at e; cases e)).trans (kp' b o e)
    refine wpAny_pure ⟨plainId_quiet F.plain_set_update_loop _, ih (i + 1) _ L' (by omega) lt (W.frame _ s' _ _ st' (Nat.le_add_right _ _) fun b hb o e => ?_) kp2 ⟨o', es', ep', t', T2⟩ (c.step hp c1 c2) fun s'' L'' mv'' H'' c'' kp'' => ?_⟩
    · rw [sb.2 b fun z => hS (by rw [← z]; exact hb)]
      exact e
    · refine q s'' L'' (Moved.trans W.gtrans ((mv.mono wider).then_heap (Nat.le_add_right _ _) fun b o hb e => ?_) mv'') H'' c'' kp''
      rw [sb.2 b fun z => hb (by rw [z]; exact List.mem_cons_self)]
      exact e
set_option maxHeartbeats 4000000 in
/-- set(xs), by what fills it -/
theorem set_made {l : Addr} {items : Array Value} (Good : Heap → Prop) {Q : Value → Shared → Prop} (calm : A.handled = none) (hl : s.heap.IsList l items)
    (fills : ∀ (led : Bool) (A' : Around) (I : Addr) (s1 : Shared) (R : Result → Shared → Prop), A'.units ≤ A.units + 4 → I = s.heap.objs.size + 1 → s1.heap.get? s.heap.objs.size = some (emp led) → (∀ b o, s.heap.get? b = some o → s1.heap.get? b = some o) →
      (∃ St : Nat → Shared → Prop, WalksS P w A'.in1 I [I, l] [I] (fun a b => b = a) items.size (fun i v => items[i]? = some v) St ∧ St 0 s1) →
      (∀ s', Moved [s.heap.objs.size, I] (fun a b => b = a) s1 s' → Good s'.heap → (∀ b o, s.heap.get? b = some o → s'.heap.get? b = some o) → R (.ok (.ret .none)) s') →
      codeAny (model P w) A' (.builtin "set.update.loop" ⟨[.ref s.heap.objs.size, .ref I], []⟩) R s1)
    (q : ∀ (h' : Heap) (tk : Nat), Good h' → (∀ b o, s.heap.get? b = some o → h'.get? b = some o) → Q (.ref s.heap.objs.size) { s with heap := h', toks := tk }) :
    wpAny (model P w) A (call (.type "set") [.ref l]) Q E s := by
  obtain ⟨c, tl, hmro⟩ := F.called_set.mro
  have hmade := F.called_set.made
  have hsub := F.called_set.sub
  refine wpAny_call (codeAny_of_tree ?_)
  show wpAny _ _ (callAny (.type "set") _) _ _ _
  refine wpAny_pure ⟨Code.quiet_builtin _ (by decide +kernel), codeAny_builtin F.entry_type_call ?_⟩
  rw [Around.under_plain (weight_type_call_type "set" [.ref l] []) rfl]
  have f1 := F.called_set.notType
  have f2 := F.called_set.canCreate
  have f3 := F.typeCall_set_1 (.ref l)
  repeat (any_goals (first | assumption | wp_step))
  generalize hled : (!w.params.followText "set-order") = led
  let N := s.heap.objs.size
  let h1 := s.heap.push (emp led)
  refine codeAny_mono (code_set_led1 (.ref l) (E := E) (Q₁ := fun r z => r = .ref N ∧ z = { s with heap := h1 }) ⟨rfl, by rw [hled]⟩) fun r z hr => ?_
  cases r with
  | error _ => exact hr
  | ok fl =>
  cases fl with
  | ret obj =>
    obtain ⟨rfl, rfl⟩ := hr
    have hN : h1.get? N = some (emp led) := Heap.get?_push_size _ rfl
    have hT : Shared.TypeIs { s with heap := h1 } (.ref N) "set" := ⟨_, hN, rfl⟩
    have g1 := F.called_set.init.lookup
    have g2 := F.called_set.init.bind (.ref N)
    repeat (any_goals (first | assumption | wp_step))
    refine codeAny_mono (codeAny_call_builtin (R := wants (fun r z => r = .none ∧ ∃ h' tk, z = { s with heap := h', toks := tk } ∧ Good h' ∧ ∀ b o, s.heap.get? b = some o → h'.get? b = some o) E)
      F.called_set.init.plain F.entry_set_init (check_set_init_1 hT ?_)) fun r z hr => ?_
    · obtain ⟨⟨ocls, odict, odata, oslots⟩, hol, hcl, nl, hdl⟩ := hl
      simp only at hcl hdl
      subst hcl
      subst hdl
      have hol' : h1.get? l = some { cls := .type "list", dict := odict, data := .seq items nl, slots := oslots } := Heap.get?_push_of_some _ hol
      have f4 := F.sub_list_set
      have f5 := F.sub_list_frozenset
      have f6 : (Value.type "list" == Value.type "dict") = false := by decide
      have hl1 : h1.IsList l items := ⟨_, hol', rfl, nl, rfl⟩
      unfold Builtin.«set.__init__» noKeywords Builtin.Frozenset.updateFrom
      generalize hPI : pyIter = PI
      wp_walk
      subst hPI
      refine wpAny_pyIter_list hl1 (wpAny_bind (wpAny_runValue ?_))
      have lt : l < N := Heap.lt_size hol
      have sz1 : h1.objs.size = N + 1 := Heap.size_push ..
      have calm3 : A.in1.in1.in1.handled = none := by simp [calm]
      refine fills led _ _ _ _ (by simp only [Around.in1_units]; omega) sz1 (Heap.get?_push_of_some _ hN) (fun b o e => Heap.get?_push_of_some _ (Heap.get?_push_of_some _ e))
        ⟨_, (Walks.list calm3 _ l (by rw [sz1]; exact Nat.ne_of_lt (Nat.lt_succ_of_lt lt)) items).toS, ⟨⟨_, Heap.get?_push_size _ rfl, rfl, rfl⟩, (hl1.push _)⟩⟩ ?_
      rintro ⟨h', g2, d', tk', os'⟩ mv hs kp
      have e1 : g2 = s.gens := mv.gens
      have e2 : d' = s.drawn := mv.drawn
      have e3 : os' = s.os := mv.os
      subst e1
      subst e2
      subst e3
      show wpAny _ _ _ _ _ _
      exact wpAny_pure (show wpAny _ _ (ret Value.none) _ _ _ from wpAny_pure ⟨rfl, h', tk', rfl, hs, kp⟩)
    · cases r with
      | error _ => exact hr
      | ok fl2 =>
      cases fl2 with
      | ret r2 =>
        obtain ⟨rfl, h', tk, rfl, hs, kp⟩ := hr
        repeat (any_goals (first | assumption | wp_step))
        exact q _ _ hs kp
      | _ => exact hr.elim
  | _ => exact hr.elim
end
end NS

set_option maxHeartbeats 400000
/-! set(xs) of nested tuples, of texts. -/
namespace NS
open PySem PyProof.Rows L2
section
variable {P : Program} {w : World} {A : Around} {E : Value → Shared → Prop} {s : Shared}
/-- set(xs), xs of nested tuples -/
theorem call_set {l : Addr} {items : Array Value} (ks : List (Addr × NestedKey)) {Q : Value → Shared → Prop} (calm : A.handled = none) (hl : s.heap.IsList l items) (it : items.toList = ks.map fun p => Value.ref p.1)
    (k0 : ∀ p ∈ ks, KAt P w s.heap p.2 p.1) (few : ks.length < 64) (hu : A.units + 16 < cLine)
    (q : ∀ (h' : Heap) (tk : Nat) L, Has P w h' s.heap.objs.size L → Come ks ks.length L → (∀ b o, s.heap.get? b = some o → h'.get? b = some o) → Q (.ref s.heap.objs.size) { s with heap := h', toks := tk }) :
    wpAny (model P w) A (call (.type "set") [.ref l]) Q E s := by
  have sz : items.size = ks.length := by
    have := congrArg List.length it
    rwa [Array.length_toList, List.length_map] at this
  have free_ : ∀ b, s.heap.objs.size ≤ b → s.heap.get? b = none := fun b hb => by
    cases e : s.heap.get? b with
    | none => rfl
    | some o => exact absurd (Nat.lt_of_lt_of_le (Heap.lt_size e) hb) (Nat.lt_irrefl _)
  have val : ∀ (i : Nat) (v : Value), items[i]? = some v → ∃ p, ks[i]? = some p ∧ v = .ref p.1 := fun i v hv => by
    have e : items.toList[i]? = some v := (Array.getElem?_toList ..).trans hv
    rw [it, List.getElem?_map] at e
    obtain ⟨p, hp, e⟩ := Option.map_eq_some_iff.mp e
    exact ⟨p, hp, e.symm⟩
  have lt : l < s.heap.objs.size := by
    obtain ⟨o, ho, _⟩ := hl
    exact Heap.lt_size ho
  refine set_made (fun h' => ∃ L, Has P w h' s.heap.objs.size L ∧ Come ks ks.length L) calm hl (fun led A' I s1 R hA hI hN keep walk fin => ?_) fun h' tk ⟨L, h1, h2⟩ k => q h' tk L h1 h2 k
  obtain ⟨St, W, st0⟩ := walk
  subst hI
  refine filling W s.heap.objs.size ?_ ks sz few val s.heap k0 (free_ _ (Nat.le_refl _)) (fun b hb => free_ b (by rw [List.mem_singleton.mp hb]; exact Nat.le_succ _)) (by omega) (items.size - 0) 0 s1 [] (by omega) (Nat.zero_le _) st0 keep ⟨_, _, _, _, tab_new hN⟩
    ⟨fun p hp => (List.not_mem_nil hp).elim, fun p hp => by simp at hp, Nat.le_refl _⟩ fun s' L' mv hs cm kp => fin s' mv ⟨L', hs, by rw [sz] at cm; exact cm⟩ kp
  intro z
  rcases List.mem_cons.mp z with e | e
  · exact absurd e (Nat.ne_of_lt (Nat.lt_succ_self _))
  · exact absurd (List.mem_singleton.mp e) (Nat.ne_of_gt lt)

/-! ### sets of texts -/
structure ComeT (xs : List Str) (i : Nat) (S : Str → Bool) (n : Nat) : Prop where
  mem : ∀ k, S k = true ↔ k ∈ xs.take i
  len : n ≤ i
  nd : n = i ↔ (xs.take i).Nodup
theorem ComeT.step {xs : List Str} {i n : Nat} {S : Str → Bool} {x : Str} (c : ComeT xs i S n) (h : xs[i]? = some x) : ComeT xs (i + 1) (fun k => S k || decide (k = x)) (if S x = true then n else n + 1) := by
  have e : xs.take (i + 1) = xs.take i ++ [x] := by rw [List.take_add_one, h]; rfl
  have len := c.len
  refine ⟨fun k => ?_, ?_, ?_⟩
  · rw [e, List.mem_append, List.mem_singleton, Bool.or_eq_true, c.mem, decide_eq_true_eq]
  · split <;> omega
  · rw [e]
    by_cases z : S x = true
    · rw [if_pos z]
      refine ⟨fun h => by omega, fun h => ?_⟩
      have := (List.nodup_append.mp h).2.2 x ((c.mem x).mp z) x (List.mem_singleton.mpr rfl)
      exact absurd rfl this
    · rw [if_neg z]
      have nx : x ∉ xs.take i := fun h => z ((c.mem x).mpr h)
      rw [show (n + 1 = i + 1) ↔ n = i by omega, c.nd]
      refine ⟨fun h => List.nodup_append.mpr ⟨h, (List.nodup_cons.mpr ⟨List.not_mem_nil, List.nodup_nil⟩), fun a ha b hb e => ?_⟩, fun h => (List.nodup_append.mp h).1⟩
      rw [List.mem_singleton.mp hb] at e
      exact nx (e ▸ ha)
theorem fillingT {I : Addr} {fp wr : List Addr} {G : Array GenState → Array GenState → Prop} {n : Nat} {Pv : Nat → Value → Prop} {St : Nat → Shared → Prop} {R : Result → Shared → Prop}
    (W : WalksS P w A.in1 I fp wr G n Pv St) (S0 : Addr) (hS : S0 ∉ fp) (xs : List Str) (hn : n = xs.length) (few : xs.length + 1 < scanBound) (val : ∀ i v, Pv i v → ∃ x t, xs[i]? = some x ∧ v = .str x t)
    (h0 : Heap) (hS0 : h0.get? S0 = none) (hw0 : ∀ b ∈ wr, h0.get? b = none) :
    ∀ (m i : Nat) (s : Shared) (S : Str → Bool) (c : Nat), n - i = m → i ≤ n → St i s → (∀ b o, h0.get? b = some o → s.heap.get? b = some o) → s.heap.SetOf (strKind P w) S0 S c → ComeT xs i S c →
      (∀ s' S' c', Moved (S0 :: wr) G s s' → s'.heap.SetOf (strKind P w) S0 S' c' → ComeT xs n S' c' → (∀ b o, h0.get? b = some o → s'.heap.get? b = some o) → R (.ok (.ret .none)) s') →
      codeAny (model P w) A (.builtin "set.update.loop" ⟨[.ref S0, .ref I], []⟩) R s := by
  have hSw : S0 ∉ wr := fun h => hS (W.sub _ h)
  have wider : ∀ b ∈ wr, b ∈ S0 :: wr := fun b hb => List.mem_cons_of_mem _ hb
  have old : ∀ {s s' : Shared}, Moved wr G s s' → (∀ b o, h0.get? b = some o → s.heap.get? b = some o) → ∀ b o, h0.get? b = some o → s'.heap.get? b = some o := fun hm z b o e =>
    hm.heap b o (fun hb => by rw [hw0 b hb] at e; cases e) (z b o e)
  intro m
  induction m with
  | zero =>
    intro i s S c hm hi st kp hs cm q
    obtain rfl : i = n := by omega
    refine codeAny_builtin F.entry_set_update_loop ?_
    rw [Around.under_plainId F.plain_set_update_loop _]
    show wpAny _ A.in1 (pyNext (.ref I) >>= _) _ _ s
    refine wpAny_bind (W.done s _ _ st fun s' mv => ?_)
    show wpAny _ A.in1 (ret Value.none) _ _ s'
    obtain ⟨o, es, ep, t, ho, more⟩ := hs
    exact wpAny_pure (q s' S c (mv.mono wider) ⟨o, es, ep, t, mv.heap S0 o hSw ho, more⟩ cm (old mv kp))
  | succ m ih =>
    intro i s S c hm hi st kp hs cm q
    have lt : i < n := by omega
    refine codeAny_builtin F.entry_set_update_loop ?_
    rw [Around.under_plainId F.plain_set_update_loop _]
    show wpAny _ A.in1 (pyNext (.ref I) >>= _) _ _ s
    refine wpAny_bind (W.item i s _ _ lt st fun v s' hP st' mv => ?_)
    obtain ⟨x, t, hx, rfl⟩ := val i v hP
    have kp' := old mv kp
    obtain ⟨o, es, ep, tb, ho, more⟩ := hs
    have hs' : s'.heap.SetOf (strKind P w) S0 S c := ⟨o, es, ep, tb, mv.heap S0 o hSw ho, more⟩
    show wpAny _ A.in1 (holding [Value.str x t] (setAdd S0 (.str x t)) >>= _) _ _ s'
    refine wpAny_bind (wpAny_holding ?_)
    unfold setAdd
    refine wpAny_holding (wpAny_bind ((strKind P w).pyHash (k := x) (strKind_is _ _ _ _) ?_))
    have len := cm.len
    refine wpAny_setAddHashed_of (knd := strKind P w) (s := { s' with toks := s'.toks + 1 }) (strKind_is _ _ _ _) rfl hs' (by omega) fun h' sb hs2 => ?_
    have kp2 : ∀ b o, h0.get? b = some o → h'.get? b = some o := fun b o e => (sb.2 b (fun z => by rw [z, hS0] at e; cases e)).trans (kp' b o e)
    refine wpAny_pure ⟨plainId_quiet F.plain_set_update_loop _, ih (i + 1) _ _ _ (by omega) lt (W.frame _ s' _ _ st' (Nat.le_succ _) fun b hb o e => ?_) kp2 hs2 (cm.step hx) fun s'' S'' c'' mv'' hs'' cm'' kp'' => ?_⟩
    · rw [sb.2 b fun z => hS (by rw [← z]; exact hb)]
      exact e
    · refine q s'' S'' c'' (Moved.trans W.gtrans ((mv.mono wider).then_heap (Nat.le_succ _) fun b o hb e => ?_) mv'') hs'' cm'' kp''
      rw [sb.2 b fun z => hb (by rw [z]; exact List.mem_cons_self)]
      exact e
/-- set(xs), xs of texts -/
theorem call_setT {l : Addr} {items : Array Value} (xs : List Str) {Q : Value → Shared → Prop} (calm : A.handled = none) (hl : s.heap.IsList l items) (it : ∀ (i : Nat) (v : Value), items[i]? = some v → ∃ x t, xs[i]? = some x ∧ v = Value.str x t) (sz : items.size = xs.length) (few : xs.length + 1 < scanBound)
    (q : ∀ (h' : Heap) (tk : Nat) S c, h'.SetOf (strKind P w) s.heap.objs.size S c → ComeT xs xs.length S c → (∀ b o, s.heap.get? b = some o → h'.get? b = some o) → Q (.ref s.heap.objs.size) { s with heap := h', toks := tk }) :
    wpAny (model P w) A (call (.type "set") [.ref l]) Q E s := by
  have free_ : ∀ b, s.heap.objs.size ≤ b → s.heap.get? b = none := fun b hb => by
    cases e : s.heap.get? b with
    | none => rfl
    | some o => exact absurd (Nat.lt_of_lt_of_le (Heap.lt_size e) hb) (Nat.lt_irrefl _)
  have lt : l < s.heap.objs.size := by
    obtain ⟨o, ho, _⟩ := hl
    exact Heap.lt_size ho
  refine set_made (fun h' => ∃ S c, h'.SetOf (strKind P w) s.heap.objs.size S c ∧ ComeT xs xs.length S c) calm hl (fun led A' I s1 R hA hI hN keep walk fin => ?_) fun h' tk ⟨S, c, h1, h2⟩ k => q h' tk S c h1 h2 k
  obtain ⟨St, W, st0⟩ := walk
  subst hI
  refine fillingT W s.heap.objs.size ?_ xs sz few it s.heap (free_ _ (Nat.le_refl _)) (fun b hb => free_ b (by rw [List.mem_singleton.mp hb]; exact Nat.le_succ _)) (items.size - 0) 0 s1 (fun _ => false) 0 (by omega) (Nat.zero_le _) st0 keep ?_
    ⟨fun k => by simp, Nat.le_refl _, by simp⟩ fun s' S' c' mv hs cm kp => fin s' mv ⟨S', c', hs, by rw [sz] at cm; exact cm⟩ kp
  · intro z
    rcases List.mem_cons.mp z with e | e
    · exact absurd e (Nat.ne_of_lt (Nat.lt_succ_self _))
    · exact absurd (List.mem_singleton.mp e) (Nat.ne_of_gt lt)
  · exact ⟨_, #[], 0, _, hN, ⟨rfl, rfl, rfl⟩, rfl, (fun e he => by simp at he), (fun k => by simp), (by decide), (by rfl), rfl⟩
end
end NS

set_option maxHeartbeats 400000
/-! len(set(xs)), xs a list of nested tuples. -/
namespace K9
open PySem PySem.Spec PyProof.Rows L2 K2

mutual
def nk : D → NestedKey
  | .int i => .num i
  | .str s => .text ⟨s.toArray⟩
  | .tup ds => .tup (nks ds)
def nks : List D → List NestedKey
  | [] => []
  | d :: r => nk d :: nks r
end
mutual
theorem nk_inj : ∀ {a b : D}, nk a = nk b → a = b
  | .int a, .int b, h => by
    rw [nk, nk] at h
    injection h with h
    rw [h]
  | .str a, .str b, h => by
    rw [nk, nk] at h
    injection h with h
    have := congrArg cp h
    rw [cp_of, cp_of] at this
    rw [this]
  | .tup a, .tup b, h => by
    rw [nk, nk] at h
    injection h with h
    rw [nks_inj h]
  | .int _, .str _, h => by rw [nk, nk] at h; cases h
  | .int _, .tup _, h => by rw [nk, nk] at h; cases h
  | .str _, .int _, h => by rw [nk, nk] at h; cases h
  | .str _, .tup _, h => by rw [nk, nk] at h; cases h
  | .tup _, .int _, h => by rw [nk, nk] at h; cases h
  | .tup _, .str _, h => by rw [nk, nk] at h; cases h
theorem nks_inj : ∀ {a b : List D}, nks a = nks b → a = b
  | [], [], _ => rfl
  | [], _ :: _, h => by rw [nks, nks] at h; cases h
  | _ :: _, [], h => by rw [nks, nks] at h; cases h
  | a :: r, b :: t, h => by
    rw [nks, nks] at h
    injection h with h1 h2
    rw [nk_inj h1, nks_inj h2]
end
section
variable {X : Cx} {pins : List (Addr × Obj)} {σ : L2.St} {H : Hp} {s : Shared}
mutual
theorem Rep.nested (I : Inv X pins σ H s) : ∀ {v : V} {d : D} {u : Value}, Rep H v d → RelV v u → NestedIs s.heap (nk d) u
  | _, _, _, .int i, r => by
    obtain ⟨t, rfl⟩ := r
    rw [nk]
    exact .int i t
  | _, _, _, .str y, r => by
    obtain ⟨t, rfl⟩ := r
    rw [nk, ← str_of (rfl : cp y = cp y)]
    exact .text y t
  | _, _, _, .tup e rs, r => by
    cases r
    obtain ⟨its, rv, ⟨o, ho, hc, k, hd⟩, _⟩ := I.tuple (SqT.of e)
    rw [nk]
    exact .tup ho hc hd (by simpa using RepL.nested I rs rv)
theorem RepL.nested (I : Inv X pins σ H s) : ∀ {vs : List V} {ds : List D} {us : List Value}, RepL H vs ds → Vals vs us → NestedAll s.heap (nks ds) us
  | _, _, _, .nil, r => by
    cases r
    rw [nks]
    exact .nil
  | _, _, _, .cons a b, r => by
    cases r with
    | cons r1 r2 =>
      rw [nks]
      exact .cons (Rep.nested I a r1) (RepL.nested I b r2)
end
end

theorem fewer {α : Type} [DecidableEq α] : ∀ (l D : List α), l.Nodup → (∀ x ∈ l, x ∈ D) → l.length ≤ D.length
  | [], _, _, _ => Nat.zero_le _
  | x :: l, D, hn, hs => by
    obtain ⟨h1, h2⟩ := List.nodup_cons.mp hn
    have hx : x ∈ D := hs x List.mem_cons_self
    have ih := fewer l (D.erase x) h2 fun y hy => (List.mem_erase_of_ne (show y ≠ x from fun e => h1 (by rw [← e]; exact hy))).2 (hs y (List.mem_cons_of_mem _ hy))
    have e := List.length_erase_of_mem hx
    have := List.length_pos_of_mem hx
    rw [List.length_cons]
    omega
theorem shorter {α : Type} [DecidableEq α] : ∀ {l : List α}, ¬ l.Nodup → ∃ D : List α, D.length < l.length ∧ ∀ x ∈ l, x ∈ D
  | [], h => absurd List.nodup_nil h
  | a :: t, h => by
    by_cases ha : a ∈ t
    · refine ⟨t, by simp, fun x hx => ?_⟩
      rcases List.mem_cons.mp hx with rfl | hx
      · exact ha
      · exact hx
    · obtain ⟨D, h1, h2⟩ := shorter (l := t) fun hn => h (List.nodup_cons.mpr ⟨ha, hn⟩)
      refine ⟨a :: D, by simp; omega, fun x hx => ?_⟩
      rcases List.mem_cons.mp hx with rfl | hx
      · exact List.mem_cons_self
      · exact List.mem_cons_of_mem _ (h2 x hx)
theorem come_len {P : Program} {w : World} {h : Heap} {a : Addr} {ks L : List (Addr × NestedKey)} (hs : NS.Has P w h a L) (c : NS.Come ks ks.length L) : L.length ≤ ks.length ∧ (L.length = ks.length ↔ (ks.map (·.2)).Nodup) := by
  obtain ⟨o, es, ep, t, T⟩ := hs
  refine ⟨c.len, fun e => ?_, fun nd => ?_⟩
  · by_cases z : (ks.map (·.2)).Nodup
    · exact z
    · obtain ⟨D, h1, h2⟩ := shorter z
      have := fewer (L.map (·.2)) D T.nd fun x hx => by
        obtain ⟨p, hp, rfl⟩ := List.mem_map.mp hx
        exact h2 _ (List.mem_map_of_mem (by
          have := c.sub p hp
          exact List.mem_of_mem_take this))
      rw [List.length_map] at this h1
      omega
  · have := fewer (ks.map (·.2)) (L.map (·.2)) nd fun x hx => by
      obtain ⟨p, hp, rfl⟩ := List.mem_map.mp hx
      exact c.all p (by rw [List.take_length]; exact hp)
    rw [List.length_map, List.length_map] at this
    have := c.len
    omega
theorem nodup_nk : ∀ {ds : List D}, (ds.map nk).Nodup ↔ ds.Nodup
  | [] => by simp
  | d :: r => by
    rw [List.map_cons, List.nodup_cons, List.nodup_cons, nodup_nk]
    refine and_congr_left fun _ => not_congr ⟨fun h => ?_, fun h => List.mem_map_of_mem h⟩
    obtain ⟨e, he, h⟩ := List.mem_map.mp h
    rw [← nk_inj h]
    exact he
/-- tuples, at most eight deep -/
def TupD (d : D) : Prop := (∃ es, d = .tup es) ∧ (nk d).depth ≤ 8
def tLenSetN (K : PySem.W.Frag) (ta : TE) : TE := fun σ H Q => ta σ H fun x H1 => ∃ (l : Addr) (vs : List V) (ds : List D), x = V.ref l ∧ SqL K H1 l vs ∧ RepL H1 vs ds ∧ (∀ d ∈ ds, TupD d) ∧ ds.length < 64 ∧ ∀ n : Nat, n ≤ ds.length → (n = ds.length ↔ ds.Nodup) → Q (.int n) H1
theorem keys_of {X : Cx} {pins : List (Addr × Obj)} {σ : L2.St} {H : Hp} {s : Shared} (I : Inv X pins σ H s) : ∀ {vs : List V} {ds : List D} {us : List Value}, RepL H vs ds → (∀ d ∈ ds, TupD d) → Vals vs us →
    ∃ ks : List (Addr × NestedKey), us = ks.map (fun p => Value.ref p.1) ∧ ks.map (·.2) = ds.map nk ∧ ∀ p ∈ ks, NS.KAt X.prog X.w s.heap p.2 p.1
  | _, _, _, .nil, _, r => by
    cases r
    exact ⟨[], rfl, rfl, fun p hp => (List.not_mem_nil hp).elim⟩
  | _, _, _, .cons (d := d) a b, h, r => by
    cases r with
    | cons r1 r2 =>
      obtain ⟨ks, e1, e2, e3⟩ := keys_of I b (fun e he => h e (List.mem_cons_of_mem _ he)) r2
      obtain ⟨⟨es, rfl⟩, dp⟩ := h d List.mem_cons_self
      have n := Rep.nested I a r1
      cases a with
      | tup e rs =>
        cases r1
        refine ⟨(_, nk (.tup es)) :: ks, by rw [e1]; rfl, by rw [List.map_cons, e2]; rfl, fun p hp => ?_⟩
        rcases List.mem_cons.mp hp with rfl | hp
        · exact ⟨n, dp⟩
        · exact e3 p hp
section
variable {X : Cx}
theorem pe_lenSetN {a : Expr} {ta : TE} {p p2 q pos : PySem.Pos} (hc : X.calm = true) (hu : X.A.units + 64 < cLine) (hg : Gl X "len") (hm : X.mg "len" = none) (hg2 : Gl X "set") (hm2 : X.mg "set" = none) (ha : PE X a ta)
    (na : starEach [a] X.env = (false, eval a X.env) :: starEach [] X.env := by rfl) : PE X (.Call (.Name "len" p) [.Call (.Name "set" p2) [a] [] q] [] pos) (tLenSetN X.K ta) := by
  refine ⟨fun pins s σ H Q I h => ?_⟩
  refine Call_ (ld_blt I hg hm PySem.boot_len ?_)
  refine PyProof.Rows.callWith_builtin1 (PyProof.Rows.args_cons ?_ rfl) rfl rfl
  refine Call_ (ld_blt I hg2 hm2 PyProof.Rows.boot_set ?_)
  refine PyProof.Rows.callWith_type1 (PyProof.Rows.args_cons (thn (ha.run pins s σ H _ I h) fun v s1 ⟨x, H1, I1, r1, q1⟩ => PyProof.Rows.args_nil ?_) na) na rfl
  obtain ⟨l, vs, ds, rfl, hl, rs, td, few, q1⟩ := q1
  cases r1
  obtain ⟨its, rv, pl, hz⟩ := I1.list hl
  obtain ⟨ks, e1, e2, e3⟩ := keys_of I1 rs td rv
  have kl : ks.length = ds.length := by
    have := congrArg List.length e2
    rwa [List.length_map, List.length_map] at this
  refine NS.call_set ks (I1.ok.hd hc) pl.isList (by simpa using e1) e3 (by omega) (by omega) fun h' tk L hs cm keep => ?_
  refine PyProof.Rows.args_nil ?_
  obtain ⟨c1, c2⟩ := come_len hs cm
  rw [e2, nodup_nk, kl] at c2
  rw [kl] at c1
  obtain ⟨o, es, ep, t, T⟩ := hs
  have I2 : Inv X pins σ H1 { s1 with heap := h', toks := tk } := I1.kept keep
  have few2 := T.few
  refine call_len_set T.ho T.hx T.hd (NS.Tab.fits (s := { s1 with heap := h' }) T) (by rw [NS.Tab.size (s := { s1 with heap := h' }) T]; omega) ⟨.int L.length, H1, I2.tok _, ⟨_, by rw [NS.Tab.size (s := { s1 with heap := h' }) T]⟩, q1 L.length c1 c2⟩
end
end K9

set_option maxHeartbeats 400000
/-! How many deeds a page can have; deeds side by side. -/
namespace K9
open PySem PySem.Spec PyProof.Rows L2 K2

def sgo (a : Nat) : Bool := a == 115 || a == 103 || a == 111
/-- how often `; ` stands ahead of s, g or o; the state: 1 behind `;`, 2 behind `; ` -/
def cnt : Nat → List Nat → Nat
  | _, [] => 0
  | st, a :: r => if a = 59 then cnt 1 r else if st = 1 ∧ a = 32 then cnt 2 r else if st = 2 ∧ sgo a = true then cnt 0 r + 1 else cnt 0 r
theorem cnt_least (st : Nat) : ∀ l : List Nat, cnt 0 l ≤ cnt st l
  | [] => Nat.le_refl _
  | a :: r => by
    rw [cnt, cnt]
    by_cases h1 : a = 59
    · rw [if_pos h1, if_pos h1]
      exact Nat.le_refl _
    · rw [if_neg h1, if_neg h1, if_neg (by omega), if_neg (by omega)]
      by_cases h2 : st = 1 ∧ a = 32
      · rw [if_pos h2]
        exact cnt_least 2 r
      · rw [if_neg h2]
        by_cases h3 : st = 2 ∧ sgo a = true
        · rw [if_pos h3]
          omega
        · rw [if_neg h3]
          exact Nat.le_refl _
theorem cnt_most (st : Nat) : ∀ l : List Nat, cnt st l ≤ cnt 0 l + 1
  | [] => Nat.zero_le _
  | a :: r => by
    rw [cnt, cnt]
    by_cases h1 : a = 59
    · rw [if_pos h1, if_pos h1]
      omega
    · rw [if_neg h1, if_neg h1, if_neg (by omega : ¬ (0 = 1 ∧ a = 32)), if_neg (by omega : ¬ (0 = 2 ∧ sgo a = true))]
      by_cases h2 : st = 1 ∧ a = 32
      · rw [if_pos h2]
        exact cnt_most 2 r
      · rw [if_neg h2]
        by_cases h3 : st = 2 ∧ sgo a = true
        · rw [if_pos h3]
          omega
        · rw [if_neg h3]
          omega
theorem cnt_app : ∀ (a b : List Nat) (st : Nat), cnt st (a ++ b) ≤ cnt st a + cnt 0 b + 1
  | [], b, st => by
    rw [cnt, List.nil_append]
    have := cnt_most st b
    omega
  | x :: a, b, st => by
    rw [List.cons_append, cnt, cnt]
    have h1 := cnt_app a b 1
    have h2 := cnt_app a b 2
    have h0 := cnt_app a b 0
    split
    · exact h1
    · split
      · exact h2
      · split
        · omega
        · exact h0
theorem cnt_take : ∀ (a b : List Nat) (st : Nat), cnt st a ≤ cnt st (a ++ b)
  | [], b, st => by
    rw [cnt]
    exact Nat.zero_le _
  | x :: a, b, st => by
    rw [List.cons_append, cnt, cnt]
    have h1 := cnt_take a b 1
    have h2 := cnt_take a b 2
    have h0 := cnt_take a b 0
    split
    · exact h1
    · split
      · exact h2
      · split
        · omega
        · exact h0
theorem cnt_drop : ∀ (a b : List Nat) (st : Nat), cnt 0 b ≤ cnt st (a ++ b)
  | [], b, st => cnt_least st b
  | x :: a, b, st => by
    rw [List.cons_append, cnt]
    have h1 := cnt_drop a b 1
    have h2 := cnt_drop a b 2
    have h0 := cnt_drop a b 0
    split
    · exact h1
    · split
      · exact h2
      · split
        · omega
        · exact h0
theorem pDeed_head {d : D} (h : DeedFine d) : ∃ c r, pDeed d = c :: r ∧ sgo c = true ∧ c ≠ 59 ∧ c ≠ 32 := by
  have e1 : txt "order" = 111 :: txt "rder" := by decide +kernel
  have e2 : txt "gone" = 103 :: txt "one" := by decide +kernel
  have e3 : txt "set" = 115 :: txt "et" := by decide +kernel
  cases h with
  | order f n ds _ _ _ => exact ⟨111, _, by rw [pDeed, e1]; rfl, by decide, by decide, by decide⟩
  | gone f o p _ _ _ => exact ⟨103, _, by rw [pDeed, e2]; rfl, by decide, by decide, by decide⟩
  | set f o p v _ _ _ _ _ _ => exact ⟨115, _, by rw [pDeed, e3]; rfl, by decide, by decide, by decide⟩
theorem rPMore_cnt : ∀ {n : Nat} {r r' : List Nat} {ds : List D}, rPMore n r = some (ds, r') → ds.length ≤ cnt 0 r
  | 0, r, r', ds, h => by
    cases h
    exact Nat.zero_le _
  | n + 1, r, r', ds, h => by
    unfold rPMore at h
    split at h
    · cases h
      exact Nat.zero_le _
    · next r1 e =>
      obtain ⟨⟨d, r2⟩, h1, h2⟩ := Option.bind_eq_some_iff.mp h
      obtain ⟨⟨es, r3⟩, h3, h4⟩ := Option.map_eq_some_iff.mp h2
      cases h4
      have ih := rPMore_cnt h3
      obtain ⟨c, q, e2, s1, s2, s3⟩ := pDeed_head (rDeed_fine h1)
      have e1 := (rDeed_some h1).1
      have e3 : r = 59 :: 32 :: c :: (q ++ r2) := by
        rw [acc_some e, e1, e2]
        rfl
      have := cnt_drop q r2 0
      rw [e3, cnt, if_pos rfl, cnt, if_neg (by decide), if_pos ⟨rfl, rfl⟩, cnt, if_neg s2, if_neg (by omega), if_pos ⟨rfl, s1⟩, List.length_cons]
      dsimp only at ih ⊢
      omega

/-! ### deeds side by side -/
def pairs : List D → List Bool
  | .tup a :: .tup b :: r => aheads a b :: pairs (.tup b :: r)
  | _ => []
theorem rising_pairs : ∀ {ds : List D}, (∀ d ∈ ds, ∃ es, d = .tup es) → rising ds = (pairs ds).all id ∧ (pairs ds).length = ds.length - 1
  | [], _ => ⟨rfl, rfl⟩
  | [d], h => by
    obtain ⟨a, rfl⟩ := h d List.mem_cons_self
    exact ⟨rfl, rfl⟩
  | d :: e :: r, h => by
    obtain ⟨a, rfl⟩ := h d List.mem_cons_self
    obtain ⟨b, rfl⟩ := h e (List.mem_cons_of_mem _ List.mem_cons_self)
    obtain ⟨i1, i2⟩ := rising_pairs (ds := .tup b :: r) fun x hx => h x (List.mem_cons_of_mem _ hx)
    refine ⟨?_, ?_⟩
    · rw [rising, pairs, i1]
      rfl
    · rw [pairs, List.length_cons, i2]
      simp
theorem pairs_at : ∀ {ds : List D} {i : Nat} {a b : List D}, (∀ d ∈ ds, ∃ es, d = .tup es) → ds[i]? = some (.tup a) → ds[i + 1]? = some (.tup b) → (pairs ds)[i]? = some (aheads a b)
  | d :: e :: r, 0, a, b, _, h1, h2 => by
    cases h1
    cases h2
    rfl
  | [d], 0, a, b, _, _, h2 => by cases h2
  | d :: e :: r, i + 1, a, b, h, h1, h2 => by
    obtain ⟨a', rfl⟩ := h d List.mem_cons_self
    obtain ⟨b', rfl⟩ := h e (List.mem_cons_of_mem _ List.mem_cons_self)
    rw [pairs]
    exact pairs_at (ds := .tup b' :: r) (fun x hx => h x (List.mem_cons_of_mem _ hx)) h1 h2
  | [d], i + 1, a, b, _, h1, _ => by cases h1
theorem like_atoms {n : Nat} : ∀ {a b : List D}, (∀ d ∈ a, Atom d) → (∀ d ∈ b, Atom d) → Like n a b
  | [], _, _, _ => .nil1
  | _ :: _, [], _, _ => .nil2
  | a :: r, b :: t, h1, h2 => by
    by_cases e : a = b
    · subst e
      exact .same (like_atoms (fun d hd => h1 d (List.mem_cons_of_mem _ hd)) fun d hd => h2 d (List.mem_cons_of_mem _ hd))
    · exact .atoms e (h1 a List.mem_cons_self) (h2 b List.mem_cons_self)
theorem like_tup {n : Nat} {x y r t : List D} (h : Like n x y) (h2 : Like (n + 1) r t) : Like (n + 1) (.tup x :: r) (.tup y :: t) := by
  by_cases e : x = y
  · subst e
    exact .same h2
  · exact .tups e h
theorem like_str {n : Nat} {s u : List Nat} {r t : List D} (h2 : Like n r t) : Like n (.str s :: r) (.str u :: t) := by
  by_cases e : s = u
  · subst e
    exact .same h2
  · exact .atoms (fun z => e (by injection z)) trivial trivial
theorem DeedFine.like {a b : List D} (h1 : DeedFine (.tup a)) (h2 : DeedFine (.tup b)) : Like 2 a b := by
  have d1 : txt "order" ≠ txt "gone" := by decide +kernel
  have d2 : txt "order" ≠ txt "set" := by decide +kernel
  have d3 : txt "gone" ≠ txt "set" := by decide +kernel
  have diff : ∀ {s u : List Nat} {r t : List D}, s ≠ u → Like 2 (.str s :: r) (.str u :: t) := fun h => .atoms (fun z => h (by injection z)) trivial trivial
  have pt : ∀ {p : List D}, (∀ e ∈ p, PtFine e) → ∀ d ∈ p, Atom d := fun h d hd => (h d hd).1
  have sp : ∀ {f o f' o' : List Nat} {p p' : List D}, (∀ e ∈ p, PtFine e) → (∀ e ∈ p', PtFine e) → Like 1 [.str f, .str o, .tup p] [.str f', .str o', .tup p'] := fun hp hp' =>
    like_str (like_str (like_tup (like_atoms (pt hp) (pt hp')) .nil1))
  have sr : ∀ {ds : List D}, (∀ d ∈ ds, Ser d) → ∀ d ∈ ds, Atom d := fun h d hd => by
    obtain ⟨i, rfl, _⟩ := h d hd
    trivial
  cases h1 with
  | order f n ds _ _ hs =>
    cases h2 with
    | order f' n' ds' _ _ hs' => exact .same (like_str (like_str (like_tup (like_atoms (sr hs) (sr hs')) .nil1)))
    | gone _ _ _ _ _ _ => exact diff d1
    | set _ _ _ _ _ _ _ _ _ _ => exact diff d2
  | gone f o p _ _ hp =>
    cases h2 with
    | order _ _ _ _ _ _ => exact diff d1.symm
    | gone f' o' p' _ _ hp' => exact .same (like_tup (sp hp hp') .nil1)
    | set _ _ _ _ _ _ _ _ _ _ => exact diff d3
  | set f o p v _ _ hp av _ _ =>
    cases h2 with
    | order _ _ _ _ _ _ => exact diff d2.symm
    | gone _ _ _ _ _ _ => exact diff d3.symm
    | set f' o' p' v' _ _ hp' av' _ _ =>
      exact .same (like_tup (sp hp hp') (like_atoms (fun d hd => by rw [List.mem_singleton.mp hd]; exact av) fun d hd => by rw [List.mem_singleton.mp hd]; exact av'))
theorem dep_atom {d : D} (h : Atom d) : (dat d).depth = 0 := by
  cases d with
  | int i => rw [dat]; rfl
  | str s => rw [dat]; rfl
  | tup _ => exact h.elim
theorem dep_atoms : ∀ {ds : List D}, (∀ d ∈ ds, Atom d) → PyData.depthAll (dats ds) = 0
  | [], _ => rfl
  | d :: r, h => by
    rw [dats, PyData.depthAll, dep_atom (h d List.mem_cons_self), dep_atoms fun e he => h e (List.mem_cons_of_mem _ he)]
    rfl
theorem DeedFine.shp {a : List D} (h : DeedFine (.tup a)) : ∀ d ∈ a, Shp d := by
  have : Shp (.tup a) := by
    unfold Shp SeqAt.shaped
    rw [Bool.and_eq_true, decide_eq_true_eq]
    refine ⟨h.lay, ?_⟩
    cases h with
    | order f n ds _ _ hs =>
      have := dep_atoms (ds := ds) fun d hd => by
        obtain ⟨i, rfl, _⟩ := hs d hd
        trivial
      simp only [dat, dats, PyData.depth, PyData.depthAll, this]
      omega
    | gone f o p _ _ hp =>
      have := dep_atoms (ds := p) fun d hd => (hp d hd).1
      simp only [dat, dats, PyData.depth, PyData.depthAll, this]
      omega
    | set f o p v _ _ hp av _ _ =>
      have := dep_atoms (ds := p) fun d hd => (hp d hd).1
      have h2 := dep_atom av
      simp only [dat, dats, PyData.depth, PyData.depthAll, this, h2]
      omega
  exact this.ins
theorem ndep_atom {d : D} (h : Atom d) : (nk d).depth = 0 := by
  cases d with
  | int i => rw [nk]; rfl
  | str s => rw [nk]; rfl
  | tup _ => exact h.elim
theorem ndep_atoms : ∀ {ds : List D}, (∀ d ∈ ds, Atom d) → NestedKey.depthAll (nks ds) = 0
  | [], _ => rfl
  | d :: r, h => by
    rw [nks, NestedKey.depthAll, ndep_atom (h d List.mem_cons_self), ndep_atoms fun e he => h e (List.mem_cons_of_mem _ he)]
    rfl
theorem DeedFine.about {d : D} (h : DeedFine d) : TupD (about d) := by
  have ng : ¬ txt "gone" = txt "order" := by decide +kernel
  have ns : ¬ txt "set" = txt "order" := by decide +kernel
  cases h with
  | order f n ds _ _ _ =>
    rw [K9.about, if_pos rfl]
    refine ⟨⟨_, rfl⟩, ?_⟩
    show (nk (.tup [.str f, .str n])).depth ≤ 8
    simp [nk, nks, NestedKey.depth, NestedKey.depthAll]
  | gone f o p _ _ hp =>
    rw [K9.about, if_neg ng]
    refine ⟨⟨_, rfl⟩, ?_⟩
    have := ndep_atoms (ds := p) fun d hd => (hp d hd).1
    simp [nk, nks, NestedKey.depth, NestedKey.depthAll, this]
  | set f o p v _ _ hp _ _ _ =>
    rw [K9.about, if_neg ns]
    refine ⟨⟨_, rfl⟩, ?_⟩
    have := ndep_atoms (ds := p) fun d hd => (hp d hd).1
    simp [nk, nks, NestedKey.depth, NestedKey.depthAll, this]
/-- the reader of plans, what is left behind it -/
def rTP (l : List Nat) : R (List D) := match acc [45] l with
  | some r1 => some ([], r1)
  | none => (rDeed l).bind fun x => (rPMore x.2.length x.2).bind fun y => if decide ((x.1 :: y.1).map K9.about).Nodup && rising (x.1 :: y.1) then some (x.1 :: y.1, y.2) else none
theorem rPlan_TP (l : List Nat) : rPlan l = (rTP l).bind fun y => if y.2 = [] then some y.1 else none := by
  unfold rPlan rTP
  cases acc [45] l with
  | some r1 => rfl
  | none =>
    show (rDeed l).bind _ = ((rDeed l).bind _).bind _
    cases rDeed l with
    | none => rfl
    | some x =>
      show (rPMore x.2.length x.2).bind _ = ((rPMore x.2.length x.2).bind _).bind _
      cases rPMore x.2.length x.2 with
      | none => rfl
      | some y =>
        show (if _ then _ else _) = (if _ then _ else _ : Option (List D × List Nat)).bind _
        by_cases h : (decide ((x.1 :: y.1).map K9.about).Nodup && rising (x.1 :: y.1)) = true
        · rw [if_pos h, h]
          simp
        · rw [if_neg h, Bool.eq_false_iff.mpr h]
          simp
theorem rPMore_end {n : Nat} {l : List Nat} (h : acc [59, 32] l = none) : rPMore n l = some ([], l) := by
  cases n with
  | zero => rfl
  | succ n =>
    unfold rPMore
    rw [h]
end K9

set_option maxHeartbeats 400000
/-! The reader of plans. -/
namespace K9
open PySem PySem.Spec PyProof.Rows L2 K2

theorem scTP : FnScope ["scanner", "deeds", "about", "deed", "at"] ["scanner"] (defScope sTakeP) := ⟨rfl, rfl, rfl, by decide +kernel, rfl, by decide +kernel, by decide +kernel⟩
/-- as a reader that is a def, of pages of few deeds -/
def spFnP (C CB : Addr) : Sp := fun vs H Q E => ∃ p x l, vs = [.ref p] ∧ Sc C H p x l ∧ cnt 0 l < 62 ∧ Wish C CB p x repL Q E H (rTP l)
theorem cnt_step {l l2 l3 : List Nat} {d : D} (h1 : acc [59, 32] l = some l2) (h2 : rDeed l2 = some (d, l3)) : cnt 0 l3 + 1 ≤ cnt 0 l := by
  obtain ⟨c, q, e2, s1, s2, s3⟩ := pDeed_head (rDeed_fine h2)
  have e3 : l = 59 :: 32 :: c :: (q ++ l3) := by
    rw [acc_some h1, (rDeed_some h2).1, e2]
    rfl
  have := cnt_drop q l3 0
  rw [e3, cnt, if_pos rfl, cnt, if_neg (by decide), if_pos ⟨rfl, rfl⟩, cnt, if_neg s2, if_neg (by omega), if_pos ⟨rfl, s1⟩]
  omega
def rPEnd (ds : List D) (l : List Nat) : R (List D) := if decide (ds.map K9.about).Nodup && rising ds then some (ds, l) else none
theorem DeedFine.head {d : D} (h : DeedFine d) : ∃ w r, d = .tup (.str w :: r) ∧ ((w = txt "order" ∧ ∃ f n rs, r = [.str f, .str n, rs] ∧ K9.about d = .tup [.str f, .str n]) ∨ (w ≠ txt "order" ∧ ∃ a t, r = a :: t ∧ K9.about d = a)) := by
  have ng : ¬ txt "gone" = txt "order" := by decide +kernel
  have ns : ¬ txt "set" = txt "order" := by decide +kernel
  cases h with
  | order f n ds _ _ _ => exact ⟨_, _, rfl, .inl ⟨rfl, f, n, _, rfl, by rw [K9.about, if_pos rfl]; rfl⟩⟩
  | gone f o p _ _ _ => exact ⟨_, _, rfl, .inr ⟨ng, _, _, rfl, by rw [K9.about, if_neg ng]⟩⟩
  | set f o p v _ _ _ _ _ _ => exact ⟨_, _, rfl, .inr ⟨ns, _, _, rfl, by rw [K9.about, if_neg ns]⟩⟩
section
variable {P : Program} {w : World} {K : PySem.W.Frag} {mg : Str → Option Value} {base : Heap} {C CB fB : Addr}
theorem ok_takeP {f fA fS fF fC : Addr} {fd fdA fdS fdF fdC : FuncData} (F : Fun K "take_plan" "take_plan" sTakeP f fd) (T : Txt K mg C CB fB) (N : Names2 mg) (Z : Bare mg)
    (bA : Binds K fdA ["self", "sign"] []) (GA : FnOk P w K mg base CX0 2 fA fdA ["self", "sign"] (spAcc C)) (mA : Meth K C "accepts" fA)
    (bF : Binds K fdF ["self"] []) (GF : FnOk P w K mg base (CX P w) 3 fF fdF ["self"] (spRefuse C CB)) (mF : Meth K C "refuse" fF)
    (kS : PySem.W.keepIn K (.ref fS) = true) (bS : Binds K fdS ["scanner"] []) (gS : mg "take_deed" = some (.ref fS)) (GS : FnOk P w K mg base (CX P w) 9 fS fdS ["scanner"] (spFn C CB rDeed Rep))
    (kC : PySem.W.keepIn K (.ref fC) = true) (bC : Binds K fdC ["one", "other"] []) (gC : mg "comes_ahead" = some (.ref fC)) (GC : FnOk P w K mg base CX0 3 fC fdC ["one", "other"] (spAhead 2)) :
    FnOk P w K mg base (CX P w) 10 f fd ["scanner"] (spFnP C CB) := by
  obtain ⟨tn, gn⟩ := N.non
  obtain ⟨tp, gp⟩ := N.par
  refine F.okX scTP (fun vs H Q E h => ?_) (fun cdv A outer s H vs Q E hr h => ?_)
  · obtain ⟨p, x, l, rfl, _⟩ := h
    rfl
  · obtain ⟨p, x, l, rfl, hs, few, W⟩ := h
    have hr2 := hr.mono (show 2 ≤ 9 by decide)
    have hr3 := hr.mono (show 3 ≤ 9 by decide)
    have hu : (A.deeper (envOfC (Str.ofString "take_plan") (defScope sTakeP) s.heap.objs.size f cdv)).units + 64 < cLine := by
      have := hr.un
      omega
    refine ⟨_, pss_cons (ps_if (pt_val (pe_meth (pv 0) T.cl mA GA hr2 bA .nil pass0 (pa_cons (pe_glob (v := .str "-") rfl gn ⟨_, rfl⟩) pa_nil))) (pss_one (ps_ret (pe_tup pa_nil))) pss_nil)
      (pss_cons (ps_set (i := 1) scTP.nd rfl (.inr rfl) (pe_lst (pa_cons (pe_call GS hr (by rfl) gS kS bS .nil (passes_call (takes_of rfl rfl rfl rfl) fun _ _ _ _ z => z) (pa_cons (pv 0) pa_nil)) pa_nil)))
      (pss_cons (ps_while PassesOwn.leaving (pt_val (pe_meth (pv 0) T.cl mA GA hr2 bA .nil pass0 (pa_cons (pe_glob (v := .str "; ") rfl gp ⟨_, rfl⟩) pa_nil)))
        (pss_one (ps_expr (pe_bm PySem.F.plainAttrs_list PySem.F.slot_list_append PySem.F.type_list_append mt_append (pv 1)
          (pa_cons (pe_call GS hr (by rfl) gS kS bS .nil (passes_call (takes_of rfl rfl rfl rfl) fun _ _ _ _ z => z) (pa_cons (pv 0) pa_nil)) pa_nil)))))
      (pss_cons (ps_setLc (i := 2) (own := [("deed", 3)]) (g := gName 3) (tt := tYes) rfl scTP.nd rfl rfl (sw_true rfl rfl rfl (by decide +kernel)) (pi_list (pv 1))
            (blkOk_by (N := ["scanner", "deeds", "about", "deed", "at"]) (sc := defScope sTakeP) (by decide +kernel))
            (fun _ _ _ _ _ => pg_name (i := 3) scTP.nd rfl (Or.inl rfl)) (fun _ _ _ _ _ => pts_nil)
            (fun _ _ _ _ _ => pe_ifExp (pt_cmpR op_eq (pe_ix (r := rIxT K) ix_tup (pv 3) pe_int (fun _ _ => rfl)) pe_str (nomark _)) (pe_slice (r := rSlT K) sl_tup (pv 3) (po_some pe_int) (po_some pe_int)) (pe_ix (r := rIxT K) ix_tup (pv 3) pe_int (fun _ _ => rfl))))
      (pss_cons (ps_if (pt_cmpR op_lt (pe_lenSetN rfl hu (by rfl) Z.len (by rfl) N.set (pv 2)) (pe_callB call_len_seq (by rfl) Z.len PySem.boot_len (pa_cons (pv 2) pa_nil)) (nomark _))
        (pss_one (ps_expr (pe_meth0 (pv 0) T.cl mF GF hr3 bF .nil (passes_call (takes_of rfl rfl rfl rfl) fun _ _ _ _ z => z)))) pss_nil)
      (pss_cons (ps_if (pt_not (pt_val (pe_callB (cr_all rfl) (by rfl) Z.all (by decide +kernel) (pa_cons
          (pe_lc (own := [("at", 4)]) (g := gName 4) (tt := tYes) rfl scTP.nd (pi_range2 (by rfl) Z.range (pa_cons pe_int (pa_cons (pe_callB call_len_seq (by rfl) Z.len PySem.boot_len (pa_cons (pv 1) pa_nil)) pa_nil)))
            (blkOk_by (N := ["scanner", "deeds", "about", "deed", "at"]) (sc := defScope sTakeP) (by decide +kernel))
            (fun _ _ _ _ _ => pg_name (i := 4) scTP.nd rfl (Or.inl rfl)) (fun _ _ _ _ _ => pts_nil)
            (fun _ _ _ _ _ => pe_call GC hr3 (by rfl) gC kC bC .nil pass0 (pa_cons (pe_ix (r := rIxL K) ix_list (pv 1) (pe_op op_sub (pv 4) pe_int) (fun _ _ => rfl)) (pa_cons (pe_ix (r := rIxL K) ix_list (pv 1) (pv 4) (fun _ _ => rfl)) pa_nil)))) pa_nil))))
        (pss_one (ps_expr (pe_meth0 (pv 0) T.cl mF GF hr3 bF .nil (passes_call (takes_of rfl rfl rfl rfl) fun _ _ _ _ z => z)))) pss_nil)
      (pss_one (ps_ret (pe_callTy call_tuple_of (by rfl) N.tup (by decide +kernel) (pa_cons (pv 1) pa_nil))))))))), ?_⟩
    obtain ⟨dx, a, hp, ps⟩ := id hs
    have pl := ps.len
    have psm := ps.sm
    unfold rTP at W
    refine ⟨.ref p, rfl, p, dx, _, rfl, hp, flds_no _ _ (by decide +kernel) (by decide +kernel), p, x, l, _, rfl, hs, by decide +kernel, fun H1 l1 e1 k1 s1 => ⟨_, rfl, iteT ?_⟩, fun e1 => ⟨_, rfl, iteF ?_⟩⟩
    · rw [cp_dash] at e1
      rw [e1] at W
      refine ⟨by show 0 ≤ _; decide, fun t ht => ?_⟩
      have sm : Same H1 (upd H1 t (.tup [])) := same_upd ht
      exact (W.of (k1.trans (Kept.ofSame sm))).done (s1.same sm) (.tup upd_same .nil)
    · rw [cp_dash] at e1
      rw [e1] at W
      have W : Wish C CB p x repL Q E H ((rDeed l).bind fun x => (rPMore x.2.length x.2).bind fun y => rPEnd (x.1 :: y.1) y.2) := W
      refine ⟨_, rfl, p, x, l, rfl, hs, fun H1 v1 d1 l1 e1 k1 s1 r1 => ?_, fun e => W.no (by rw [e]; rfl)⟩
      rw [e1] at W
      have W1 : Wish C CB p x repL Q E H1 ((rPMore l1.length l1).bind fun y => rPEnd (d1 :: y.1) y.2) := W.of k1
      have ll := rDeed_less _ _ _ e1
      have c1 : cnt 0 l1 ≤ cnt 0 l := by
        rw [(rDeed_some e1).1]
        exact cnt_drop _ _ _
      refine ⟨by show 1 ≤ _; decide, fun b hb => ?_⟩
      have sm1 : Same H1 (upd H1 b (.lst [v1])) := same_upd hb
      refine ⟨fun m σ H' => ∃ (l' : List Nat) (vs : List V) (ds : List D) (n : Nat), m = l'.length ∧ σ = [some (.ref p), some (.ref b), none, none, none] ∧ Kept p H1 H' ∧ Sc C H' p x l' ∧ H' b = some (.lst vs) ∧ RepL H' vs ds ∧ (ds ≠ [] ∧ (∀ d ∈ ds, DeedFine d) ∧ ds.length + cnt 0 l' ≤ cnt 0 l + 1) ∧ l'.length ≤ n ∧
        ((rPMore l1.length l1).bind fun y => rPEnd (d1 :: y.1) y.2) = (rPMore n l').bind fun y => rPEnd (ds ++ y.1) y.2,
        ⟨_, l1, [v1], [d1], l1.length, rfl, rfl, Kept.ofSame sm1, s1.same sm1, upd_same, (RepL.cons r1 .nil).keep (TupK.same sm1), ⟨(fun z => nomatch z), fun d hd => by rw [List.mem_singleton.mp hd]; exact rDeed_fine e1, by simp; omega⟩, Nat.le_refl _, rfl⟩, ?_⟩
      rintro m σ H' ⟨l', vs, ds, n, rfl, rfl, k', s', hb', r', ⟨hne, fine, hn⟩, hf, er⟩
      obtain ⟨dx', a', hp', ps'⟩ := id s'
      rw [er] at W1
      have W' := W1.of k'
      have nb : b ≠ p := by
        rintro rfl
        rw [hb'] at hp'
        cases hp'
      have vl := r'.len
      refine ⟨.ref p, rfl, p, dx', _, rfl, hp', flds_no _ _ (by decide +kernel) (by decide +kernel), p, x, l', _, rfl, s', by decide +kernel, fun H2 l2 e2 k2 s2 => ⟨_, rfl, iteT ?_⟩, fun e2 => ⟨_, rfl, iteF ?_⟩⟩
      · rw [cp_par] at e2
        have len2 := acc_len e2
        simp only [List.length_cons, List.length_nil] at len2
        obtain ⟨n', rfl⟩ : ∃ n', n = n' + 1 := ⟨n - 1, by omega⟩
        rw [rPMore, e2] at er W'
        refine ⟨fun σ' H' => ∃ m', m' < l'.length ∧ ∃ (l' : List Nat) (vs : List V) (ds : List D) (n : Nat), m' = l'.length ∧ σ' = [some (.ref p), some (.ref b), none, none, none] ∧ Kept p H1 H' ∧ Sc C H' p x l' ∧ H' b = some (.lst vs) ∧ RepL H' vs ds ∧ (ds ≠ [] ∧ (∀ d ∈ ds, DeedFine d) ∧ ds.length + cnt 0 l' ≤ cnt 0 l + 1) ∧ l'.length ≤ n ∧
          ((rPMore l1.length l1).bind fun y => rPEnd (d1 :: y.1) y.2) = (rPMore n l').bind fun y => rPEnd (ds ++ y.1) y.2, fun _ _ w => w, ?_⟩
        have hb2 : H2 b = some (.lst vs) := k2 _ _ hb' nb
        refine ⟨.ref b, rfl, .inl ⟨rfl, _, SqL.of hb2⟩, _, rfl, p, x, l2, rfl, s2, fun H3 v3 d3 l3 e3 k3 s3 r3 => ?_, fun e => (W'.of k2).no ?_⟩
        · have hb3 : H3 b = some (.lst vs) := k3 _ _ hb2 nb
          have l3l := rDeed_less _ _ _ e3
          have c3 := cnt_step e2 e3
          refine ⟨b, vs, v3, rfl, rfl, hb3, Nat.lt_of_le_of_lt (show vs.length ≤ 63 by omega) (by decide), ?_⟩
          refine ⟨_, ?_, l3, vs ++ [v3], ds ++ [d3], n', rfl, rfl, (Kept.new ((k'.trans k2).trans k3) hb), s3.upd nb, upd_same, ?_, ⟨by simp, ?_, ?_⟩, by omega, ?_⟩
          · omega
          · have r4 := (r'.keep (s'.tupK k2)).keep (s2.tupK k3)
            exact (r4.snoc r3).keep (TupK.lst hb3)
          · intro d hd
            rcases List.mem_append.mp hd with hd | hd
            · exact fine d hd
            · rw [List.mem_singleton.mp hd]
              exact rDeed_fine e3
          · rw [List.length_append, List.length_singleton]
            omega
          · rw [er]
            show (((rDeed l2).bind _).bind _) = _
            rw [e3]
            show (((rPMore n' l3).map _).bind _) = _
            cases rPMore n' l3 with
            | none => rfl
            | some y =>
              show rPEnd (ds ++ d3 :: y.1) y.2 = rPEnd (ds ++ [d3] ++ y.1) y.2
              rw [List.append_assoc]
              rfl
        · show (((rDeed l2).bind _).bind _) = none
          rw [e]
          rfl
      · rw [cp_par] at e2
        rw [rPMore_end e2] at W'
        have W' : Wish C CB p x repL Q E H' (rPEnd (ds ++ []) l') := W'
        rw [List.append_nil] at W'
        have c64 : ds.length < 64 := by omega
        clear er hf W1 e2
        refine ⟨.ref b, rfl, b, rfl, ⟨_, SqL.of hb'⟩, fun D nD => ?_⟩
        refine lc_it (walk_list (K := K) (a := b) (xs := vs)) (fun i G => ∃ us : List V, RepL G us ((ds.take i).map K9.about) ∧ G D = some (.lst us) ∧ Same H' G) ⟨[], .nil, upd_same, same_upd nD⟩ (fun i G _ z => ?_) ?_ ?_
        · obtain ⟨us, _, _, sm⟩ := z
          exact SqL.of (sm _ _ hb')
        · rintro i y G G' hi ⟨us, ru, hD, smG⟩ ⟨rfl, hx⟩
          have hi' : i < ds.length := by rw [← vl]; exact hi
          obtain ⟨d, hd⟩ : ∃ d, ds[i]? = some d := ⟨_, List.getElem?_eq_getElem hi'⟩
          obtain ⟨v, hv, rv⟩ := r'.get hd
          obtain rfl : v = y := Option.some.inj (hv.symm.trans hx)
          have rv := rv.keep (TupK.same smG)
          have ul := ru.len
          rw [List.length_map, List.length_take] at ul
          have uz : us.length < sizeLine := Nat.lt_of_le_of_lt (show us.length ≤ 63 by omega) (by decide)
          obtain ⟨wd, r, rfl, hh⟩ := (fine d (List.mem_of_getElem? hd)).head
          obtain ⟨td, yw, ws, rfl, htd, hyw, rws⟩ := rep_head rv
          have next : ∀ {G2 : Hp} {z : V}, Same G' G2 → Rep G2 z (K9.about (.tup (.str wd :: r))) → ∃ us' : List V, RepL (upd G2 D (.lst (us ++ [z]))) us' ((ds.take (i + 1)).map K9.about) ∧ upd G2 D (.lst (us ++ [z])) D = some (.lst us') ∧ Same H' (upd G2 D (.lst (us ++ [z]))) := fun {G2 z} s2 rz => by
            refine ⟨us ++ [z], ?_, upd_same, fun c o hc => ?_⟩
            · rw [List.take_add_one, hd, List.map_append]
              exact ((ru.keep (TupK.same s2)).snoc rz).keep (TupK.lst (s2 _ _ hD))
            · rw [upd_ne (ne_of_none hc nD)]
              exact s2 _ _ (smG _ _ hc)
          refine ⟨rfl, _, rfl, td, _, 0, _, rfl, rfl, SqT.of htd, atI_nat (j := 0) rfl, rfl, _, rfl, ?_⟩
          rw [dec_str, hyw, cp_order]
          rcases hh with ⟨e, f', n', rs, rfl, eab⟩ | ⟨ne, a', t', rfl, eab⟩
          · rw [decide_eq_true e]
            cases rws with | cons q0 rws => cases rws with | cons q1 rws => cases rws with | cons q2 rws =>
            cases rws
            rename_i u0 u1 u2
            refine iteT ⟨_, rfl, 1, rfl, 3, rfl, td, _, rfl, SqT.of htd, ?_, fun p2 hp2 => ?_⟩
            · intro z
              exact absurd z.1 (show ¬ HT.sIx 4 0 (some 1) = 0 by decide)
            · have s2 : Same G' (upd G' p2 (.tup [u0, u1])) := same_upd hp2
              refine ⟨us, s2 _ _ hD, uz, next (z := .ref p2) s2 ?_⟩
              rw [eab]
              exact .tup upd_same (.cons (q0.keep (TupK.same s2)) (.cons (q1.keep (TupK.same s2)) .nil))
          · rw [decide_eq_false ne]
            cases rws with | cons q0 rws =>
            refine iteF ⟨_, rfl, td, _, 1, _, rfl, rfl, SqT.of htd, atI_nat (j := 1) rfl, us, hD, uz, next (Same.refl G') ?_⟩
            rw [eab]
            exact q0
        · rintro G ⟨us, ru, hD, smG⟩
          rw [vl, List.take_length] at ru
          have ul := ru.len
          rw [List.length_map] at ul
          have hb3 := smG _ _ hb'
          have s3 := s'.same smG
          have r3 := r'.keep (TupK.same smG)
          have W3 := W'.of (Kept.ofSame smG)
          obtain ⟨dx3, a3, hp3, ps3⟩ := id s3
          clear W' s' hb' r' hp' ps' ps hs hp
          refine ⟨.ref D, rfl, D, us, ds.map K9.about, rfl, SqL.of hD, ru, ?_, by rw [List.length_map]; exact c64, fun n h1 h2 => ?_⟩
          · intro d hd
            obtain ⟨e, he, rfl⟩ := List.mem_map.mp hd
            exact (fine e he).about
          rw [List.length_map] at h1 h2
          refine ⟨.ref D, rfl, D, us, rfl, .inl (SqL.of hD), _, _, rfl, rfl, _, rfl, ite2 (fun e1 => ?_) (fun e1 => ?_)⟩
          · have lt : n < ds.length := by
              have := of_decide_eq_true e1
              omega
            have nn : ¬ (ds.map K9.about).Nodup := fun z => by
              have := h2.mpr z
              omega
            refine meth0 s3 rfl (by decide +kernel) (by decide +kernel) ⟨p, x, _, rfl, s3, W3.no ?_⟩
            unfold rPEnd
            rw [decide_eq_false nn]
            rfl
          · have nd : (ds.map K9.about).Nodup := h2.mp (by
              have : ¬ ((n : Nat) : Int) < ((us.length : Nat) : Int) := fun z => e1 (decide_eq_true z)
              omega)
            have W4 : Wish C CB p x repL Q E G (if rising ds = true then some (ds, l') else none) := by
              unfold rPEnd at W3
              rw [decide_eq_true nd, Bool.true_and] at W3
              exact W3
            clear W3
            have tups : ∀ d ∈ ds, ∃ es, d = .tup es := fun d hd => by
              obtain ⟨w, r, e, _⟩ := (fine d hd).head
              exact ⟨_, e⟩
            obtain ⟨rp, pn⟩ := rising_pairs tups
            have dl : 1 ≤ ds.length := List.length_pos_iff.mpr hne
            refine ⟨.ref b, rfl, b, vs, rfl, .inl (SqL.of hb3), 1, _, rfl, ⟨by decide, by decide, by omega, by omega⟩, fun D2 n2 => ?_⟩
            have hcount : ((vs.length : Int) - 1).toNat = ds.length - 1 := by omega
            have smX : ∀ i, Same G (upd G D2 (.lst (((pairs ds).take i).map V.bl))) := fun i => same_upd n2
            refine lc_it (walk_range (lo := 1) (n := ((vs.length : Int) - 1).toNat)) (fun i G' => G' D2 = some (.lst (((pairs ds).take i).map V.bl)) ∧ Same G G') ⟨upd_same, same_upd n2⟩ (fun _ _ _ _ => True.intro) ?_ ?_
            · rintro i y G1 G2 hi ⟨hD2, smG1⟩ ⟨rfl, rfl⟩
              have lt : i + 1 < ds.length := by omega
              have hi1 : ds[i]? = some ds[i] := List.getElem?_eq_getElem (by omega)
              have hi2 : ds[i + 1]? = some ds[i + 1] := List.getElem?_eq_getElem lt
              obtain ⟨ea, he1⟩ := tups _ (List.mem_of_getElem? hi1)
              obtain ⟨eb, he2⟩ := tups _ (List.mem_of_getElem? hi2)
              rw [he1] at hi1
              rw [he2] at hi2
              have f1 := fine _ (List.mem_of_getElem? hi1)
              have f2 := fine _ (List.mem_of_getElem? hi2)
              have pa := pairs_at tups hi1 hi2
              obtain ⟨u1, hu1, ru1⟩ := r3.get hi1
              obtain ⟨u2, hu2, ru2⟩ := r3.get hi2
              have ru1 := ru1.keep (TupK.same smG1)
              have ru2 := ru2.keep (TupK.same smG1)
              have hb4 := smG1 _ _ hb3
              cases ru1 with
              | tup ht1 rs1 =>
              cases ru2 with
              | tup ht2 rs2 =>
              rename_i ta va tb vb
              have x1 : atI vs (1 + (i : Int) - 1) = some (V.ref ta) := by
                rw [show 1 + (i : Int) - 1 = ((i : Nat) : Int) by omega]
                exact atI_nat hu1
              have x2 : atI vs (1 + (i : Int)) = some (V.ref tb) := by
                rw [show 1 + (i : Int) = ((i + 1 : Nat) : Int) by omega]
                exact atI_nat hu2
              refine ⟨rfl, .ref b, rfl, _, rfl, _, _, rfl, rfl, b, vs, _, _, rfl, rfl, SqL.of hb4, x1, .ref b, rfl, _, rfl, b, vs, _, _, rfl, rfl, SqL.of hb4, x2, ?_⟩
              refine ⟨_, _, _, _, ea, eb, rfl, ht1, rs1, ht2, rs2, f1.shp, f2.shp, f1.like f2, fun H5 sm5 => ?_⟩
              refine ⟨_, sm5 _ _ hD2, ?_, ?_, ?_⟩
              · rw [List.length_map, List.length_take]
                exact Nat.lt_of_le_of_lt (show _ ≤ 63 by omega) (by decide)
              · rw [upd_same, List.take_add_one, pa, List.map_append]
                rfl
              · exact fun c o hc => by
                  rw [upd_ne (ne_of_none hc n2)]
                  exact sm5 _ _ (smG1 _ _ hc)
            · rintro G1 ⟨hD2, smG1⟩
              rw [hcount, ← pn, List.take_length] at hD2
              refine ⟨D2, _, rfl, SqL.of hD2, _, rfl, ?_⟩
              rw [← rp]
              have s4 := s3.same smG1
              have W5 := W4.of (Kept.ofSame smG1)
              cases hris : rising ds with
              | false =>
                refine iteT ?_
                obtain ⟨dx4, a4, hp4, _⟩ := id s4
                refine meth0 s4 rfl (by decide +kernel) (by decide +kernel) ⟨p, x, _, rfl, s4, W5.no ?_⟩
                rw [hris]
                rfl
              | true =>
                rw [if_pos hris] at W5
                refine iteF ⟨.ref b, rfl, b, vs, rfl, .inl ⟨SqL.of (smG1 _ _ hb3), fun t ht => ?_⟩⟩
                have sm6 : Same G1 (upd G1 t (.tup vs)) := same_upd ht
                exact (W5.of (Kept.ofSame sm6)).done (s4.same sm6) (.tup upd_same ((r3.keep (TupK.same smG1)).keep (TupK.same sm6)))
end
end K9

set_option maxHeartbeats 400000
/-! read_plan. -/
namespace K9
open PySem PySem.Spec PyProof.Rows L2 K2

theorem scReadP : FnScope ["text", "scanner", "plan"] ["text"] (defScope sReadP) := ⟨rfl, rfl, rfl, by decide +kernel, rfl, by decide +kernel, by decide +kernel⟩
/-- a reader of any value, its texts as few tells -/
def spReadF (K : PySem.W.Frag) (CB : Addr) (few : List Nat → Prop) (rd : List Nat → Option (List D)) : Sp := fun vs H Q E =>
  (∃ x : Str, vs = [.str x] ∧ (cp x).length ≤ most ∧ few (cp x) ∧ (∀ H' v ds, rd (cp x) = some ds → Same H H' → Rep H' v (.tup ds) → Q v H') ∧
    (rd (cp x) = none → ∀ d H', Same H H' → H' d = some (.xd [("value", V.str x)]) → E (.ref CB) (some d) H')) ∨
  (∃ (v : V) (T : String), vs = [v] ∧ TyX K H v (.type T) ∧ kitB T "str" = some false ∧ ∀ d H', Same H H' → H' d = some (.xd [("value", v)]) → E (.ref CB) (some d) H')
section
variable {P : Program} {w : World} {K : PySem.W.Frag} {mg : Str → Option Value} {base : Heap} {C CB fB : Addr}
theorem ok_readP {f fI fT fX : Addr} {fd fdI fdT fdX : FuncData} (F : Fun K "read_plan" "read_plan" sReadP f fd) (T : Txt K mg C CB fB) (Z : Bare mg)
    (M : Mk K C fI) (bI : Binds K fdI ["self", "whole"] []) (GI : FnOk P w K mg base CX0 1 fI fdI ["self", "whole"] (spInit C))
    (kT : PySem.W.keepIn K (.ref fT) = true) (bT : Binds K fdT ["scanner"] []) (gT : mg "take_plan" = some (.ref fT)) (GT : FnOk P w K mg base (CX P w) 10 fT fdT ["scanner"] (spFnP C CB))
    (bX : Binds K fdX ["self"] []) (GX : FnOk P w K mg base (CX P w) 4 fX fdX ["self"] (spEndS C CB)) (mX : Meth K C "expect_end" fX)
    {FB : FuncData} (FBo : Fun K "__init__" "BadText.__init__" sBadInit fB FB) (bB : Binds K FB ["self", "value"] []) :
    FnOk P w K mg base (CX P w) 11 f fd ["text"] (spReadF K CB (fun l => cnt 0 l < 62) rPlan) := by
  have GB : FnOk P w K mg base CX0 1 fB FB ["self", "value"] (spBadI CB) := ok_badI FBo T
  refine F.okX scReadP (fun vs H Q E h => ?_) (fun cdv A outer s H vs Q E hr h => ?_)
  · rcases h with ⟨x, rfl, _⟩ | ⟨v, T, rfl, _⟩ <;> rfl
  · have hr2 := hr.mono (show 2 ≤ 10 by decide)
    have hr4 := hr.mono (show 4 ≤ 10 by decide)
    refine ⟨_, pss_cons (ps_if (pt_not (pt_val (pe_callB call_isi (by rfl) Z.isin (by decide +kernel)
          (pa_cons (pv 0) (pa_cons (pe_bltn (v := .ty "str") (by rfl) Z.str (by decide +kernel) rfl) pa_nil)))))
        (pss_one (ps_raise rfl (takes_of rfl rfl rfl rfl) (pmk_oex T.ox T.iB T.tB GB hr2 bB .nil pass0 rfl T.gB (pa_cons (pv 0) pa_nil)))) pss_nil)
      (pss_cons (ps_set (i := 1) scReadP.nd rfl (.inl rfl) (pe_make M GI hr2 (by rfl) T.gC bI .nil pass0 (pa_cons (pv 0) pa_nil)))
      (pss_cons (ps_set (i := 2) scReadP.nd rfl (.inl rfl) (pe_call GT hr (by rfl) gT kT bT .nil (passes_call (takes_of rfl rfl rfl rfl) fun _ _ _ _ z => z) (pa_cons (pv 1) pa_nil)))
      (pss_cons (ps_expr (pe_meth0 (pv 1) T.cl mX GX hr4 bX .nil (passes_call (takes_of rfl rfl rfl rfl) fun _ _ _ _ z => z)))
      (pss_one (ps_ret (pv 2)))))), ?_⟩
    rcases h with ⟨x, rfl, hm, few, q1, q2⟩ | ⟨v, Ty, rfl, ty, kt, q⟩
    rotate_left
    · refine ⟨v, rfl, v, .ty "str", _, .type "str", false, rfl, .ty "str", ty, kit_ty kt, _, rfl, iteT ?_⟩
      exact bad_made (fun q h => ⟨v, rfl, h⟩) q
    refine ⟨.str x, rfl, .str x, .ty "str", .type "str", .type "str", true, rfl, .ty "str", .base (.str x), kit_ty (by decide +kernel), _, rfl, iteF ?_⟩
    refine ⟨.str x, rfl, fun p dx np ndx ne => ?_⟩
    have sm0 : Same H (upd (upd H dx (.own p)) p (.ins C dx [])) := fun b o e => by
      rw [upd_ne (ne_of_none e np), upd_ne (ne_of_none e ndx)]
      exact e
    have up : ∀ {H'}, Kept p (upd (upd H dx (.own p)) p (.ins C dx [])) H' → Same H H' := fun k b o e => k b o (sm0 b o e) (ne_of_none e np)
    refine ⟨p, dx, x, rfl, upd_same, hm, fun H1 k1 s1 => ⟨rfl, ?_⟩⟩
    rw [rPlan_TP] at q1 q2
    refine ⟨_, rfl, p, x, _, rfl, s1, few, fun H2 v2 d2 l2 e2 k2 s2 r2 => ?_, fun e2 => fun d H' k hd => q2 (by rw [e2]; rfl) d H' (up (k1.trans k)) hd⟩
    rw [e2] at q1 q2
    obtain ⟨dx2, a2, hp2, _⟩ := id s2
    refine ⟨.ref p, rfl, p, dx2, _, rfl, hp2, flds_no _ _ (by decide +kernel) (by decide +kernel), p, x, l2, rfl, s2, fun z => ⟨_, rfl, ?_⟩, fun z => fun d H' k hd => q2 ?_ d H' (up ((k1.trans k2).trans k)) hd⟩
    · exact q1 H2 v2 d2 (by show (if l2 = [] then _ else _) = _; rw [if_pos z]) (up (k1.trans k2)) r2
    · show (if l2 = [] then _ else _) = _
      rw [if_neg z]
end
end K9

set_option maxHeartbeats 400000
/-! try: .. except X as n: c = n, and what comes behind it, while the exception is kept by c. -/
namespace K9
open PySem PySem.Spec PyProof.Rows L2 K2

/-- a def that may raise, held by a slot -/
structure HeldX (P : Program) (w : World) (K : PySem.W.Frag) (mg : Str → Option Value) (base : Heap) (k : Nat) (f : Addr) (sp : Sp) : Prop where
  ex : ∃ (fd : FuncData) (ps : List Str), FnOk P w K mg base (L2.CX P w) k f fd ps sp ∧ PySem.W.keepIn K (.ref f) = true ∧ Binds K fd ps []
def tCallX (i : Nat) (S : Addr → Sp → Prop) (E : L2.St → XK) (t : TA) : TE := fun σ H Q => ∃ f sp, σ[i]? = some (some (.ref f)) ∧ S f sp ∧ t σ H fun vs H1 => sp vs H1 Q (E σ)
section
variable {X : Cx} {k i : Nat} {x : Str} {p pos : PySem.Pos} {e : Expr} {es : List Expr} {t : TA} {E : L2.St → XK}
theorem pe_callX {S : Addr → Sp → Prop} (A : ∀ f sp, S f sp → HeldX X.prog X.w X.K X.mg X.base k f sp) (hr : Room k X.A) (hN : X.N[i]? = some x) (hv : Vis X.env.scope x) (hx : ∀ σ, PassesAt (L2.CX X.prog X.w) X σ (E σ)) (ha : PA X (e :: es) t)
    (hdb : (x == ("__debug__" : Str)) = false := by decide) (hcd : (x == ("__classdict__" : Str)) = false := by decide)
    (he : starEach (e :: es) X.env = (false, eval e X.env) :: starEach es X.env := by rfl) (hpl : (backTo pos (starEach es X.env)).any (·.1) = false := by rfl) : PE X (.Call (.Name x p) (e :: es) [] pos) (tCallX i S E t) := by
  refine ⟨fun pins s σ H Q I h => ?_⟩
  obtain ⟨f, sp, hs, hS, ht⟩ := h
  obtain ⟨fd, ps, F, hk, hb⟩ := (A f sp hS).ex
  refine wpAny_Call_Name_kw (thn ((pe_var (pos := p) hN hv hdb hcd).run pins s σ H (fun v H1 => v = .ref f ∧ H1 = H) I ⟨.ref f, hs, rfl, rfl⟩) fun u s1 ⟨v, H1, I1, r1, q1⟩ => ?_)
  obtain ⟨rfl, rfl⟩ := q1
  cases r1
  refine PySem.W.callWith_K (h₀ := X.base) I.ok.mod.kin hk (thn (ha.run pos pins s1 σ _ _ I1 ht) fun us s2 ⟨vs, H2, I2, r, q⟩ => ⟨I2.kIn, ?_⟩) he hpl
  exact run_fnS F hr hb (hx σ) I2 r q
end

/-- as X, one more object that stands still -/
def kept_ (X : Cx) (a : Addr) (oe : Obj) : Cx := { X with pn := (a, oe) :: X.pn }
section
variable {X : Cx} {pins : List (Addr × Obj)} {σ : L2.St} {H : Hp} {s : Shared} {a : Addr} {oe : Obj}
theorem Inv.more (I : Inv X ((a, oe) :: pins) σ H s) : Inv (kept_ X a oe) pins σ H s :=
  ⟨⟨I.ok.mod, I.ok.kind, I.ok.glob, I.ok.blt, I.ok.above, I.ok.inj, I.ok.has, I.ok.cab, I.ok.hd, I.ok.frames, I.ok.stk, I.ok.exf, I.ok.bs, I.ok.bsz, I.ok.noex, I.ok.exfs, I.ok.funs, I.ok.frf⟩, I.os, I.bare, I.base, I.loc, I.cell, I.free, I.freeC, fun p hp => I.pin p (by
    have hp : p ∈ (a, oe) :: (X.pn ++ pins) := hp
    rcases List.mem_cons.mp hp with rfl | hp
    · exact List.mem_append_right _ List.mem_cons_self
    · rcases List.mem_append.mp hp with hp | hp
      · exact List.mem_append_left _ hp
      · exact List.mem_append_right _ (List.mem_cons_of_mem _ hp)), I.hok, I.len⟩
theorem Inv.less (ok : X.Ok) (I : Inv (kept_ X a oe) pins σ H s) : Inv X pins σ H s :=
  ⟨ok, I.os, I.bare, I.base, I.loc, I.cell, I.free, I.freeC, fun p hp => I.pin p (List.mem_cons_of_mem _ hp), I.hok, I.len⟩
theorem SP.less {D : Ends} {f : Flow} (ok : X.Ok) (h : SP (kept_ X a oe) pins D f s) : SP X pins D f s := by
  cases f with
  | next =>
    obtain ⟨σ', H', I, q⟩ := h
    exact ⟨σ', H', Inv.less ok I, q⟩
  | brk =>
    obtain ⟨σ', H', I, q⟩ := h
    exact ⟨σ', H', Inv.less ok I, q⟩
  | cont =>
    obtain ⟨σ', H', I, q⟩ := h
    exact ⟨σ', H', Inv.less ok I, q⟩
  | ret u =>
    obtain ⟨v, σ', H', I, r, q⟩ := h
    exact ⟨v, σ', H', Inv.less ok I, r, q⟩
/-- behind a suite, the exception still there -/
theorem Inv.behind {pn' : List (Addr × Obj)} (I : Inv (X.suite a ((a, oe) :: (X.pn ++ pins))) pn' σ H s) (ok : X.Ok) : Inv X ((a, oe) :: pins) σ H s :=
  ⟨ok, I.os, I.bare, I.base, I.loc, I.cell, I.free, I.freeC, fun p hp => I.pin p (List.mem_append_left _ (by
    rcases List.mem_append.mp hp with hp | hp
    · exact List.mem_cons_of_mem _ (List.mem_append_left _ hp)
    · rcases List.mem_cons.mp hp with rfl | hp
      · exact List.mem_cons_self
      · exact List.mem_cons_of_mem _ (List.mem_append_right _ hp))), I.hok, I.len⟩
end
/-- what is wished of an exception: that the clause takes it; the suite's reading, then the rest's -/
def wKeep (K : PySem.W.Frag) (c : Value) (i : Nat) (ts te : Addr → Value → Option Addr → TS) (D : Ends) : WX := fun cls d σ H =>
  PySem.W.exmOne K cls c = some true ∧ ∀ a, H a = none → ts a cls d { nx := fun σ' H' => te a cls d D (σ'.set i none) H', rt := fun _ _ => False, bk := fun _ _ => False, ct := fun _ _ => False } (σ.set i (some (.ref a))) H
section
variable {X : Cx} {x n : Str} {c : Value} {i : Nat} {body suite rest : List Stmt} {b₀ : Stmt} {np pos pos' : PySem.Pos} {tb : WX → TS} {ts te : Addr → Value → Option Addr → TS} {tr : TS}
theorem pss_keep (hs : X.stack = X.env :: X.outer) (hf : X.env.frame = some X.env.locals) (hN : X.N.Nodup) (hi : X.N[i]? = some n) (hln : X.env.kindOf n = some .local) (hc : Names X x c)
    (hb : ∀ (W : WX) (pn : List (Addr × Obj)) (xe : Value → Shared → Prop), Takes (X.tr pn xe) W → PassesOwn (model X.prog X.w) X.A X.env xe → PSs (X.tr pn xe) body (tb W))
    (hsu : ∀ (a : Addr) (oe : Obj) (cls : Value) (d : Option Addr) (pn : List (Addr × Obj)), Zc cls d oe → (∃ vs, oe.data = .fields vs) → PSs (X.suite a ((a, oe) :: pn)) (b₀ :: suite) (ts a cls d))
    (hre : ∀ (a : Addr) (oe : Obj) (cls : Value) (d : Option Addr), Zc cls d oe → (∃ vs, oe.data = .fields vs) → PSs (kept_ X a oe) rest (te a cls d))
    (hrn : PSs X rest tr) :
    PSs X (.Try body [.ExceptHandler (some (.Name x np)) (some n) (b₀ :: suite) pos'] [] [] pos :: rest) (fun D σ H => tb (wKeep X.K c i ts te D) { D with nx := tr D } σ H) := by
  refine ⟨fun pins s σ H D I h => ?_⟩
  have ok := I.ok
  have hfr : X.A.frames = some (X.env :: X.outer) := by rw [ok.frames, hs]
  have hloc : Loc X.env.scope n := .inl hln
  -- the statement's own end: as the body leaves it, or with an exception that stands
  refine wpAny_execs_cons (thn (Q := fun f s' => SP X pins { D with nx := tr D } f s' ∨ (f = .next ∧ ∃ a oe cls d σ' H', Zc cls d oe ∧ (∃ vs, oe.data = .fields vs) ∧ Inv X ((a, oe) :: pins) σ' H' s' ∧ te a cls d D σ' H')) ?_ fun f s1 q => ?_)
  · refine wpAny_Try_except ?_
    let R : Flow → Shared → Prop := fun f s' => SP X pins { D with nx := tr D } f s' ∨ (f = .next ∧ ∃ a oe cls d σ' H', Zc cls d oe ∧ (∃ vs, oe.data = .fields vs) ∧ Inv X ((a, oe) :: pins) σ' H' s' ∧ te a cls d D σ' H')
    refine wpAny_mono ((hb (wKeep X.K c i ts te D) (X.pn ++ pins) (fun e s₁ => wpAny (model X.prog X.w) X.A (noteFrame e X.env) (fun _ s₂ => wpAny (model X.prog X.w) X.A (setFlight e none) (fun _ s₃ =>
      wpAny (model X.prog X.w) X.A (handleBy e X.env [.ExceptHandler (some (.Name x np)) (some n) (b₀ :: suite) pos']) R X.xe s₃) X.xe s₂) X.xe s₁) (fun u s' xx => ?_) PassesOwn.looking).run [] s σ H { D with nx := tr D } (I.toTry _) h) (fun f s1 hsp => ?_) (fun e s1 he => he)
    · obtain ⟨a, B, sI, pins', σ', H', cls, d, rfl, J', nb, up, sky, na, os, ag, hyes, hgo⟩ := xx
      have J : Inv X pins σ' H' sI := J'.ofTry ok
      have sky' : Sky B (X.env :: X.outer) a (Zc cls d) X.env.locals s'.heap := by rw [← hs]; exact sky
      show wpAny (model X.prog X.w) X.A (noteFrame (.ref a) X.env) _ _ _
      refine Sky.land Zc.steady hfr hf sky' fun h3 fl3 up3 => ?_
      have J3 : Inv X pins σ' H' { s' with heap := h3 } := J.landed nb fl3.1 (up.trans up3) os ag
      obtain ⟨o3, v3, g3, z3, d3⟩ := fl3.there
      have noFrame : a ∉ frs (X.env :: X.outer) := fun hm => by
        obtain ⟨_, o', e', hnf⟩ := fl3.2.2.1.mem hm
        rw [g3] at e'
        cases e'
        exact hnf _ d3
      have nL : a ≠ X.env.locals := fun z => noFrame (List.mem_filterMap.mpr ⟨X.env, List.mem_cons_self, by rw [hf, z]⟩)
      have nF : a ∉ X.fs := fun hm => by
        obtain ⟨e, he, q⟩ := List.mem_filterMap.mp hm
        exact noFrame (List.mem_filterMap.mpr ⟨e, List.mem_cons_of_mem _ he, q⟩)
      have S3 := J3.suite g3 d3 na nL nF
      refine wpAny_handleBy_cons (codeAny_handlers_test ?_) (by intro q; cases q)
      have LT : PySem.W.Looks (model X.prog X.w) h3 (typeOf (.ref a)) cls := fun A Q E s k q => wpAny_typeOf_ref (k _ _ g3) (by rw [z3.1]; exact q)
      have LM := PySem.W.exm_one (M := model X.prog X.w) (J3.kIn) LT hyes
      have asks : ∀ {Q : Value → Shared → Prop} {E : Value → Shared → Prop}, Q c { s' with heap := h3 } → wpAny (model X.prog X.w) (X.A.mark (some (.ref a))) (eval (.Name x np) X.env) Q E { s' with heap := h3 } := fun {Q E} q => by
        obtain ⟨hg, hdbg, hm | ⟨hm, hv, hnn⟩⟩ := hc
        · exact ld_glob (X := X.suite a ((a, o3) :: (X.pn ++ pins))) S3 hg hm q hdbg
        · exact ld_blt (X := X.suite a ((a, o3) :: (X.pn ++ pins))) S3 hg hm hv q hnn hdbg
      refine asks (LM.here (codeAny_handlers_suite_as ?_))
      refine HandSPX.lands_againZ fl3 fun h4 fl4 up4 => ?_
      have J4 : Inv X pins σ' H' { s' with heap := h4 } := J.landed nb fl4.1 ((up.trans up3).trans up4) os ag
      obtain ⟨o4, v4, g4, z4, d4⟩ := fl4.there
      have S4 := J4.suite g4 d4 na nL nF
      refine store_ok (X := X.suite a ((a, o4) :: (X.pn ++ pins))) (v := .ref a) S4 hN hi hloc rfl (fun s5 S5 => ?_) (.inr hln)
      refine wpAny_mono ((hsu a o4 cls d (X.pn ++ pins) z4 ⟨_, d4⟩).run [] s5 _ H' _ S5 (hgo a na)) (fun f s6 hsp => ?_) (fun _ _ z => False.elim z)
      cases f with
      | next =>
        obtain ⟨σ6, H6, S6, q6⟩ := hsp
        exact gone_ok (Inv.behind S6 ok) hN hi hln fun s7 J7 => .inr ⟨rfl, a, o4, cls, d, _, _, z4, ⟨_, d4⟩, J7, q6⟩
      | brk =>
        obtain ⟨_, _, _, q⟩ := hsp
        exact q.elim
      | cont =>
        obtain ⟨_, _, _, q⟩ := hsp
        exact q.elim
      | ret u =>
        obtain ⟨_, _, _, _, _, q⟩ := hsp
        exact q.elim
    · cases f with
      | next =>
        obtain ⟨σ', H', J', q⟩ := hsp
        exact wpAny_execs_nil (.inl ⟨σ', H', J'.ofTry ok, q⟩)
      | brk =>
        obtain ⟨σ', H', J', q⟩ := hsp
        exact .inl ⟨σ', H', J'.ofTry ok, q⟩
      | cont =>
        obtain ⟨σ', H', J', q⟩ := hsp
        exact .inl ⟨σ', H', J'.ofTry ok, q⟩
      | ret u =>
        obtain ⟨v, σ', H', J', r, q⟩ := hsp
        exact .inl ⟨v, σ', H', J'.ofTry ok, r, q⟩
  · rcases q with q | ⟨rfl, a, oe, cls, d, σ', H', z, fl, J, q⟩
    · cases f with
      | next =>
        obtain ⟨σ', H', I', q⟩ := q
        exact hrn.run pins s1 σ' H' D I' q
      | ret v => exact q
      | brk => exact q
      | cont => exact q
    · exact thn ((hre a oe cls d z fl).run pins s1 σ' H' D (Inv.more J) q) fun f s2 hq => SP.less ok hq
/-! ### what is asked of the exception that is kept -/
/-- c.f -/
theorem pe_xk {a C : Addr} {oe : Obj} {cls : Value} {d : Option Addr} {e : Expr} {te : TE} {pos : PySem.Pos} {n : Str} (T : XfC X.K C) (hno : PySem.W.findIn X.K (.ref C) n = some none)
    (hz : Zc cls d oe) (hf : ∃ vs, oe.data = .fields vs) (he : PE (kept_ X a oe) e te) (hb : attributeBase e n X.env (eval e X.env) = eval e X.env := by rfl) :
    PE (kept_ X a oe) (.Attribute e n pos) (tXf a cls d C n te) := by
  refine ⟨fun pins s σ H Q I h => ?_⟩
  refine attr_of hb (thn (he.run pins s σ H _ I h) fun u s1 hh => ?_)
  obtain ⟨x, H1, I1, rx, rfl, rfl, dd, fs, v, rfl, ea, l, q⟩ := hh
  obtain rfl : u = Value.ref a := rx
  obtain ⟨ha, _⟩ := I1.pin (a, oe) (List.mem_append_left _ List.mem_cons_self)
  obtain ⟨vs, hd⟩ := hf
  obtain ⟨mA, hns, hr⟩ := (show ObjOk X.prog X.w H1 s1.heap dd (.xd fs) from I1.hok dd _ ea)
  obtain ⟨od, ho, hl⟩ := lookIn_ns hns
  obtain ⟨u, hu, ru⟩ := RelO.some_of (v := v) (o := mA n) (by rw [← l]; exact hr n)
  have J : PySem.W.InstAt s1.heap a oe C (some od) := ⟨ha, hz.1, by unfold PySem.W.notCls; rw [hd], by rw [hz.2]; exact ho⟩
  exact HandSPX.exc_get I1.kIn J T.ga T.gg T.exC (PySem.W.findObj_own T.hdC hno rfl (by rw [hl, hu])) (handed_of ru) ⟨v, H1, I1.tok _, ru, q⟩
/-- what the class must say for isinstance -/
structure IxC (K : PySem.W.Frag) (C : Addr) : Prop where
  cl : (PySem.W.clsIn K C).isSome = true
  ga : PySem.W.findIn K (.ref C) "__getattribute__" = some (some (.builtin "BaseException.__getattribute__"))
  gt : PySem.W.findIn K (.ref C) "__getattr__" = some none
  ex : PySem.W.subIn K (.ref C) (.type "BaseException") = some true
  ha : PySem.W.findIn K (.ref C) "__class__" = some (some (.builtin "object.__class__"))
  hn : PySem.W.specialIn K (.builtin "object.__class__") "__get__" = some (some (.builtin "getset_descriptor.__get__"))
  ht : PySem.W.takesIn K (.builtin "object.__class__") = some true
  hm : PySem.W.mroIn K C (.type "object") = some true
/-- isinstance(c, T) of the kept exception with the dict dd -/
def rIsK (K : PySem.W.Frag) (C a : Addr) (cls : Value) (d : Option Addr) : List V → Hp → VK → Prop := fun xs H Q => ∃ (t : V) (tv : Value) (b : Bool) (dd : Addr) (fs : List (Str × V)), cls = .ref C ∧ d = some dd ∧ xs = [.ref a, t] ∧ ClsV t tv ∧ H dd = some (.xd fs) ∧ PySem.W.kitOne K (.ref C) tv = some b ∧ Q (.bl b) H
theorem inst_kept {a C dd : Addr} {oe : Obj} {pins : List (Addr × Obj)} {σ : L2.St} {H : Hp} {s : Shared} {fs : List (Str × V)} (I : Inv (kept_ X a oe) pins σ H s) (hz : Zc (.ref C) (some dd) oe) (hf : ∃ vs, oe.data = .fields vs) (ea : H dd = some (.xd fs)) : ∃ od, PySem.W.InstAt s.heap a oe C (some od) := by
  obtain ⟨ha, _⟩ := I.pin (a, oe) (List.mem_append_left _ List.mem_cons_self)
  obtain ⟨vs, hd⟩ := hf
  obtain ⟨mA, hns, hr⟩ := (show ObjOk X.prog X.w H s.heap dd (.xd fs) from I.hok dd _ ea)
  obtain ⟨od, ho, hl⟩ := lookIn_ns hns
  exact ⟨od, ha, hz.1, by unfold PySem.W.notCls; rw [hd], by rw [hz.2]; exact ho⟩
theorem call_isK {a C : Addr} {cls : Value} {d : Option Addr} {oe : Obj} (T : IxC X.K C) (hz : Zc cls d oe) (hf : ∃ vs, oe.data = .fields vs) : CallR (kept_ X a oe) (.builtin "isinstance") (rIsK X.K C a cls d) := by
  intro pins s σ H xs us Q I r h
  obtain ⟨t, tv, b, dd, fs, rfl, rfl, rfl, hc, ea, e, q⟩ := h
  obtain ⟨u1, u2, rfl, r1, r2⟩ := vals2 r
  have e2 := hc.eq r2
  subst e2
  cases (show u1 = Value.ref a from r1)
  obtain ⟨od, J⟩ := inst_kept I hz hf ea
  exact PySem.W.kia_one (PySem.W.kitx_exc T.cl T.ga T.gt T.ex T.ha T.hn T.ht T.hm) I.kIn J e (fun z => nomatch z) fun tk => ⟨.bl b, H, I.tok tk, rfl, q⟩
/-- .. of a tuple of classes -/
def rIsKT (K : PySem.W.Frag) (C a : Addr) (cls : Value) (d : Option Addr) : List V → Hp → VK → Prop := fun xs H Q => ∃ (tp : Addr) (cs : List V) (us : List Value) (b : Bool) (dd : Addr) (fs : List (Str × V)), cls = .ref C ∧ d = some dd ∧ xs = [.ref a, .ref tp] ∧ H tp = some (.tup cs) ∧ Paired ClsV cs us ∧ H dd = some (.xd fs) ∧ PySem.W.kitAny K (.ref C) us = some b ∧ Q (.bl b) H
theorem call_isKT {a C : Addr} {cls : Value} {d : Option Addr} {oe : Obj} (T : IxC X.K C) (hz : Zc cls d oe) (hf : ∃ vs, oe.data = .fields vs) : CallR (kept_ X a oe) (.builtin "isinstance") (rIsKT X.K C a cls d) := by
  intro pins s σ H xs us Q I r h
  obtain ⟨tp, cs, ts, b, dd, fs, rfl, rfl, rfl, hT, k, ea, e, q⟩ := h
  obtain ⟨u1, u2, rfl, r1, r2⟩ := vals2 r
  cases (show u2 = Value.ref tp from r2)
  cases (show u1 = Value.ref a from r1)
  obtain ⟨od, J⟩ := inst_kept I hz hf ea
  obtain ⟨_, its, rv, o, h1, h2, n, h3⟩ := (show ObjOk X.prog X.w H s.heap tp (.tup cs) from I.hok tp _ hT)
  have e3 := ClsV.all k rv
  subst e3
  obtain ⟨oc, od', dt, sl⟩ := o
  simp only at h2 h3
  subst h2 h3
  exact PySem.W.kia_tup (PySem.W.kitx_exc T.cl T.ga T.gt T.ex T.ha T.hn T.ht T.hm) I.kIn J h1 e (fun z => nomatch z) fun tk => ⟨.bl b, H, I.tok tk, rfl, q⟩
end
end K9

/-! A def that shows values (repr): its promise holds where no repr is under way on the stack (guards are []). -/
namespace K2
open PySem PySem.Spec PyProof.Rows L2

/-- the promise of a def, kept wherever no repr stands on the stack -/
structure FnG (P : Program) (w : World) (K : PySem.W.Frag) (mg : Str → Option Value) (base : Heap) (k : Nat)
    (f : Addr) (fd : FuncData) (ps : List Str) (sp : Sp) : Prop where
  len : ∀ vs H Q E, sp vs H Q E → vs.length = ps.length
  run : ∀ (B : Around) (fr : List Env) (s : Shared) (H : Hp) (args : Args) (us : List Value) (vs : List V) (Q : VK)
    (E : XK), B.guards = some [] → Room k B → Env0 P w K mg base B fr s H → BindsTo s fd args (ps.zip us) →
    Vals vs us → sp vs H Q E → codeAny (model P w) B (.call (.ref f) args) (CR CX0 fr P w H s Q E) s

section
variable {P : Program} {w : World} {K : PySem.W.Frag} {mg : Str → Option Value} {base : Heap}

theorem FnG.mk' {x qual : Str} {st : Stmt} {f : Addr} {fd : FuncData} {N ps : List Str} {k : Nat} {sp : Sp}
    (F : Fun K x qual st f fd) (S : FnScope N ps (defScope st))
    (len : ∀ vs H Q E, sp vs H Q E → vs.length = ps.length)
    (hbody : ∀ (cdv : Value) (B : Around) (fr : List Env) (s : Shared) (H : Hp) (vs : List V) (Q : VK) (E : XK),
      B.guards = some [] → Room k (B.deeper (envOfC qual (defScope st) s.heap.objs.size f cdv)) → sp vs H Q E →
      ∃ t, PSs (cxOf CX0 P w K mg base N qual (defScope st) f cdv B fr s H E).nox (defBody st) t ∧
        t { nx := fun _ H' => Q .non H', rt := Q } (start N vs) H) : FnG P w K mg base (k + 1) f fd ps sp := by
  obtain ⟨oc, od, kV, doc, pm, an, cdv, ct, osl, rfl, look, code⟩ := F.ex
  refine ⟨len, fun B fr s H args us vs Q E hG room e0 bd rv want => ?_⟩
  have lv := len _ _ _ _ want
  have kin : K.In s.heap := e0.mod.kin.keeps fun b o h => (e0.bs b o h).1
  have nol : s.heap.NoLimit := e0.mod.nolimit.keeps fun b o h => (e0.bs b o h).1
  have par : ∀ y ∈ ps.zip us, (defScope st).names.lookup y.1 = some .local ∨
      ((defScope st).names.lookup y.1 = some .cell ∧
        ((cellsFrom (s.heap.objs.size + 1) (defScope st).names []).lookup y.1).isSome = true) := by
    rintro ⟨n, v⟩ hy
    rcases S.par n (List.of_mem_zip hy).1 with q | q
    · exact Or.inl q
    · exact Or.inr ⟨q, PySem.W.cellsFrom_some _ _ _ (Or.inl q)⟩
  refine codeAny_call_function room.depth (kin _ _ look) rfl S.co S.gen rfl
    (PySem.W.codeRec_of kin code) (bd _ _ _ _ ?_)
  refine wpAny_newFunctionEnv_cells S.kind par fun env he s1 inc => ?_
  subst he
  refine ⟨nol.keeps inc.toInCall.keep, codeAny_func ?_⟩
  obtain ⟨t, ht, hq⟩ := hbody cdv B fr s H vs Q E hG (room.deeper _) want
  have inv : Inv (cxOf CX0 P w K mg base N qual (defScope st) f cdv B fr s H E) [] (start N vs) H s1 :=
    inv_start S room.hd e0 lv rv inc
  refine wpAny_mono (ht.nox.run [] s1 (start N vs) H _ inv hq) ?_ (fun _ _ z => z)
  have done : ∀ {s' : Shared} {σ' : L2.St} {H' : Hp} {v : V} {u : Value},
      Inv (cxOf CX0 P w K mg base N qual (defScope st) f cdv B fr s H E) [] σ' H' s' → RelV v u → Q v H' →
      CE fr P w H s Q u s' := fun J r q => ⟨_, _, J.os, J.bare, J.base, J.hok, r, q⟩
  intro fl s' hs
  cases fl with
  | brk => exact hs.choose_spec.choose_spec.2.elim
  | cont => exact hs.choose_spec.choose_spec.2.elim
  | next =>
    obtain ⟨σ', H', J, q⟩ := hs
    exact done (v := V.non) (u := Value.none) J rfl q
  | ret u =>
    obtain ⟨v, σ', H', J, r, q⟩ := hs
    exact done J r q
end

section
variable {X : Cx} {k : Nat} {f : Addr} {fd : FuncData} {ps : List Str} {sp : Sp} {E : XK} {x : Str} {p pos : Pos}
  {e : Expr} {es : List Expr} {t : TA}

theorem run_fnG {pins : List (Addr × Obj)} {σ : L2.St} {H : Hp} {s : Shared} {Q : VK} {us : List Value} {vs : List V}
    (F : FnG X.prog X.w X.K X.mg X.base k f fd ps sp) (hG : X.A.guards = some []) (room : Room k X.A)
    (bd : Binds X.K fd ps []) (hx : Passes CX0 X E) (I : Inv X pins σ H s) (r : Vals vs us) (h : sp vs H Q E) :
    wpAny (model X.prog X.w) X.A (call (.ref f) us) (EP X pins σ Q) X.xe s := by
  have el : (us ++ []).length = ps.length := by
    rw [List.append_nil, ← r.length]
    exact F.len _ _ _ _ h
  have hb := bd s us I.kIn el
  rw [List.append_nil] at hb
  refine wpAny_call (codeAny_mono (F.run X.A X.stack s H ⟨us, []⟩ us vs Q E hG room I.env0 hb r h) ?_)
  rintro (⟨er⟩ | ⟨fl⟩) s' hq
  · exact hx pins σ H s er s' I hq
  · rcases fl with _ | _ | _ | u
    · exact hq.elim
    · exact hq.elim
    · exact hq.elim
    · exact I.after hq

/-- f(e, ..), f a def that shows values -/
theorem pe_callG (F : FnG X.prog X.w X.K X.mg X.base k f fd ps sp) (hG : X.A.guards = some []) (room : Room k X.A)
    (hg : Gl X x) (hm : X.mg x = some (.ref f)) (keep : PySem.W.keepIn X.K (.ref f) = true)
    (bd : Binds X.K fd ps []) (hx : Passes CX0 X E) (ha : PA X (e :: es) t)
    (hdb : (x == ("__debug__" : Str)) = false := by decide)
    (he : starEach (e :: es) X.env = (false, eval e X.env) :: starEach es X.env := by rfl)
    (hpl : (backTo pos (starEach es X.env)).any (·.1) = false := by rfl) :
    PE X (.Call (.Name x p) (e :: es) [] pos) (tCall sp [] E t) := by
  refine ⟨fun pins s σ H Q I h => wpAny_Call_Name_kw (ld_glob I hg hm ?_ hdb)⟩
  refine PySem.W.callWith_K (h₀ := X.base) I.ok.mod.kin keep (thn (ha.run pos pins s σ H _ I h) ?_) he hpl
  rintro us s1 ⟨vs, H1, I1, r, q⟩
  rw [List.append_nil] at q
  exact ⟨I1.kIn, run_fnG F hG room bd hx I1 r q⟩
end
end K2

set_option maxHeartbeats 400000
/-! Values that are shown: repr. -/
namespace K9
open PySem PySem.Spec PyProof.Rows L2 K2

mutual
/-- v is a datum d: its objects stand in H, at no address of S -/
inductive Sh (H : Hp) (S : Addr → Prop) : V → PyData → Prop
  | non : Sh H S .non .none
  | bl (b : Bool) : Sh H S (.bl b) (.bool b)
  | int (i : Int) : Sh H S (.int i) (.int i)
  | str (x : Str) : Sh H S (.str x) (.str x)
  | lst {a : Addr} {xs : List V} {ds : List PyData} : H a = some (.lst xs) → ¬ S a → ShAll H S xs ds →
    Sh H S (.ref a) (.list ds)
  | tup {a : Addr} {xs : List V} {ds : List PyData} : H a = some (.tup xs) → ¬ S a → ShAll H S xs ds →
    Sh H S (.ref a) (.tuple ds)
  | dic0 {a : Addr} : H a = some (.dK []) → ¬ S a → Sh H S (.ref a) (.dict [])
  | dic1 {a : Addr} {x : Str} {v : V} {d : PyData} : H a = some (.dK [(Sum.inr x, v)]) → ¬ S a → Sh H S v d →
    Sh H S (.ref a) (.dict [(.str x, d)])
inductive ShAll (H : Hp) (S : Addr → Prop) : List V → List PyData → Prop
  | nil : ShAll H S [] []
  | cons {v : V} {vs : List V} {d : PyData} {ds : List PyData} : Sh H S v d → ShAll H S vs ds → ShAll H S (v :: vs) (d :: ds)
end

mutual
theorem Sh.mono {H H' : Hp} {S S' : Addr → Prop} (hs : ∀ a, S' a → S a) (hk : ∀ a o, ¬ S a → H a = some o → H' a = some o) :
    ∀ {v : V} {d : PyData}, Sh H S v d → Sh H' S' v d
  | _, _, .non => .non
  | _, _, .bl b => .bl b
  | _, _, .int i => .int i
  | _, _, .str x => .str x
  | _, _, .lst h n t => .lst (hk _ _ n h) (fun z => n (hs _ z)) (ShAll.mono hs hk t)
  | _, _, .tup h n t => .tup (hk _ _ n h) (fun z => n (hs _ z)) (ShAll.mono hs hk t)
  | _, _, .dic0 h n => .dic0 (hk _ _ n h) (fun z => n (hs _ z))
  | _, _, .dic1 h n t => .dic1 (hk _ _ n h) (fun z => n (hs _ z)) (Sh.mono hs hk t)
theorem ShAll.mono {H H' : Hp} {S S' : Addr → Prop} (hs : ∀ a, S' a → S a) (hk : ∀ a o, ¬ S a → H a = some o → H' a = some o) :
    ∀ {vs : List V} {ds : List PyData}, ShAll H S vs ds → ShAll H' S' vs ds
  | _, _, .nil => .nil
  | _, _, .cons a b => .cons (Sh.mono hs hk a) (ShAll.mono hs hk b)
end

section
variable {X : Cx} {pins : List (Addr × Obj)} {σ : L2.St} {H : Hp} {s : Shared} {S : Addr → Prop}
theorem dic0_at {a : Addr} (I : Inv X pins σ H s) (h : H a = some (.dK [])) : ∃ o es ep, (a == sysModules) = false ∧ s.heap.get? a = some o ∧ o.cls = .type "dict" ∧ o.data = .dict es ep ∧ es.toList = [] := by
  obtain ⟨_, sm, vs, kv, o, es, ep, ho, hx, hd, hk, hp, _⟩ := dk_of I.hok h
  cases kv
  refine ⟨o, es, ep, sm, ho, hx.1, hd, ?_⟩
  cases hE : es.toList with
  | nil => rfl
  | cons a b =>
    rw [hE] at hp
    cases hp
theorem dic1_at {a : Addr} {x : Str} {v : V} (I : Inv X pins σ H s) (h : H a = some (.dK [(Sum.inr x, v)])) : ∃ o es ep en t1, (a == sysModules) = false ∧ s.heap.get? a = some o ∧ o.cls = .type "dict" ∧ o.data = .dict es ep ∧ es.toList = [en] ∧ en.key = .str x t1 ∧ RelV v en.val := by
  obtain ⟨_, sm, vs, kv, o, es, ep, ho, hx, hd, hk, hp, _⟩ := dk_of I.hok h
  rcases vs with _ | ⟨⟨qk, qv⟩, rest⟩
  · cases kv
  cases kv with
  | cons r1 r2 =>
    cases r2
    obtain ⟨e1, rv⟩ := r1
    dsimp only at e1 rv
    subst e1
    cases hE : es.toList with
    | nil =>
      rw [hE] at hp
      cases hp
    | cons a b =>
      rw [hE] at hp
      cases hp with
      | cons hi hv ht =>
        cases ht
        obtain ⟨t1, ek⟩ := Value.isStrOf_shape (show Value.isStrOf _ a.key = true from hi)
        have hv' : a.val = qv := hv
        exact ⟨o, es, ep, a, t1, sm, ho, hx.1, hd, hE, ek, by rw [hv']; exact rv⟩
mutual
theorem Sh.reads (I : Inv X pins σ H s) : ∀ {v : V} {d : PyData} {u : Value}, Sh H S v d → RelV v u → ∃ as, Reads s.heap u d as
  | _, _, _, .non, r => by
    cases r
    exact ⟨_, Reads.none⟩
  | _, _, _, .bl b, r => by
    cases r
    exact ⟨_, Reads.bool b⟩
  | _, _, _, .int i, r => by
    obtain ⟨t, rfl⟩ := r
    exact ⟨_, Reads.int i t⟩
  | _, _, _, .str x, r => by
    obtain ⟨t, rfl⟩ := r
    exact ⟨_, Reads.str x t⟩
  | _, _, _, .lst h n t, r => by
    cases r
    obtain ⟨its, rv, ⟨o, k, ho, hc, _, hd⟩, _⟩ := I.list (SqL.of h)
    obtain ⟨as, hr⟩ := ShAll.reads I t rv
    exact ⟨_, Reads.list ho hc hd hr⟩
  | _, _, _, .tup h n t, r => by
    cases r
    obtain ⟨its, rv, ⟨o, ho, hc, k, hd⟩, _⟩ := I.tuple (SqT.of h)
    obtain ⟨as, hr⟩ := ShAll.reads I t rv
    exact ⟨_, Reads.tuple ho hc hd hr⟩
  | _, _, _, .dic0 h n, r => by
    cases r
    obtain ⟨o, es, ep, sm, ho, hx, hd, e⟩ := dic0_at I h
    exact ⟨_, Reads.dict (kvs := []) ho hx hd (by rw [e]; exact ReadsAll.nil) (by rw [e]; exact ReadsAll.nil)⟩
  | _, _, _, .dic1 h n t, r => by
    cases r
    obtain ⟨o, es, ep, en, t1, sm, ho, hx, hd, e, ek, rv⟩ := dic1_at I h
    obtain ⟨as, hr⟩ := Sh.reads I t rv
    exact ⟨_, Reads.dict (kvs := [(.str _, _)]) (bs := as ++ []) ho hx hd (by rw [e]; show ReadsAll _ [en.key] _ _; rw [ek]; exact ReadsAll.cons (Reads.str _ _) ReadsAll.nil)
      (by rw [e]; exact ReadsAll.cons hr ReadsAll.nil)⟩
theorem ShAll.reads (I : Inv X pins σ H s) : ∀ {vs : List V} {ds : List PyData} {us : List Value}, ShAll H S vs ds → Vals vs us → ∃ as, ReadsAll s.heap us ds as
  | _, _, _, .nil, r => by
    cases r
    exact ⟨_, ReadsAll.nil⟩
  | _, _, _, .cons a b, r => by
    cases r with
    | cons r1 r2 =>
      obtain ⟨as, q1⟩ := Sh.reads I a r1
      obtain ⟨bs, q2⟩ := ShAll.reads I b r2
      exact ⟨_, ReadsAll.cons q1 q2⟩
end
/-! shown, wherever the lists stand -/
mutual
theorem Sh.reprK (I : Inv X pins σ H s) : ∀ {v : V} {d : PyData} {u : Value}, Sh H S v d → RelV v u → d.showable = true → d.shown.length ≤ sizeLine →
    ∃ bs, ReadAtMost s.heap d.depth bs ∧ ReprK X.prog X.w bs s.heap d.depth u d.shown
  | _, _, _, .non, r, _, _ => by
    cases r
    exact ⟨[], (fun _ h => nomatch h), by simp only [PyData.shown]; exact .of_is ReprIs.none _ _ _⟩
  | _, _, _, .bl b, r, _, _ => by
    cases r
    exact ⟨[], (fun _ h => nomatch h), by simp only [PyData.shown]; exact .of_is (ReprIs.bool b) _ _ _⟩
  | _, _, _, .int i, r, hs, _ => by
    obtain ⟨t, rfl⟩ := r
    exact ⟨[], (fun _ h => nomatch h), by simp only [PyData.shown]; exact .of_is (ReprIs.int t (by simpa [PyData.showable] using hs)) _ _ _⟩
  | _, _, _, .str x, r, _, hz => by
    obtain ⟨t, rfl⟩ := r
    exact ⟨[], (fun _ h => nomatch h), by simp only [PyData.shown]; exact .of_is (ReprIs.str x t (by simpa only [PyData.shown] using hz)) _ _ _⟩
  | _, _, _, .lst (a := a) (xs := xs) (ds := ds) h n t, r, hs, hz => by
    cases r
    obtain ⟨its, rv, ⟨o, k, ho, hc, _, hd⟩, _⟩ := I.list (SqL.of h)
    have hz' : (listText (PyData.shownAll ds)).length ≤ sizeLine := by simpa only [PyData.shown] using hz
    obtain ⟨bs, hb, hk⟩ := ShAll.reprK I t rv (by simpa [PyData.showable] using hs) (fun t ht => Nat.le_trans (listText_mem_le ht) hz')
    obtain ⟨as, rd⟩ := Sh.reads I (.lst h n t) (show RelV (.ref a) (.ref a) from rfl)
    have hna := not_mem_of_deeper rd (by simp only [PyData.depth]; omega) hb
    refine ⟨a :: bs, ReadAtMost.cons rd (by simp only [PyData.depth]; omega) hb, ?_⟩
    simp only [PyData.depth, PyData.shown]
    cases rv with
    | nil =>
      cases t
      simp only [PyData.shownAll, listText_nil]
      exact ReprK.listEmpty ho hc hd
    | cons r1 r2 => exact ReprK.list ho hc hd hna (by simpa using hk.length_eq) (fun i y e => hk.item i y (by simpa using e))
  | _, _, _, .tup (a := a) (xs := xs) (ds := ds) h n t, r, hs, hz => by
    cases r
    obtain ⟨its, rv, ⟨o, ho, hc, k, hd⟩, _⟩ := I.tuple (SqT.of h)
    have hz' : (tupleText (PyData.shownAll ds)).length ≤ sizeLine := by simpa only [PyData.shown] using hz
    obtain ⟨bs, hb, hk⟩ := ShAll.reprK I t rv (by simpa [PyData.showable] using hs) (fun t ht => Nat.le_trans (tupleText_mem_le ht) hz')
    obtain ⟨as, rd⟩ := Sh.reads I (.tup h n t) (show RelV (.ref a) (.ref a) from rfl)
    have hna := not_mem_of_deeper rd (by simp only [PyData.depth]; omega) hb
    refine ⟨a :: bs, ReadAtMost.cons rd (by simp only [PyData.depth]; omega) hb, ?_⟩
    simp only [PyData.depth, PyData.shown]
    exact ReprK.tuple ho hc hd hna hk
  | _, _, _, .dic0 (a := a) h n, r, hs, hz => by
    cases r
    obtain ⟨o, es, ep, sm, ho, hx, hd, e⟩ := dic0_at I h
    obtain ⟨as, rd⟩ := Sh.reads (S := S) I (.dic0 h n) (show RelV (.ref a) (.ref a) from rfl)
    refine ⟨[a], ReadAtMost.cons rd (n := PyData.depthKv []) (by simp only [PyData.depth]; omega) (fun _ h => nomatch h), ?_⟩
    simp only [PyData.depth, PyData.shown, PyData.shownKv_eq]
    exact ReprK.dict ho hx hd sm (fun z => nomatch z) (ReprEntriesK.of_two es.toList _ _ (by rw [e]; exact .nil) (by rw [e]; exact .nil))
  | _, _, _, .dic1 (a := a) (x := x) (d := d) h n t, r, hs, hz => by
    cases r
    obtain ⟨o, es, ep, en, t1, sm, ho, hx, hd, e, ek, rv⟩ := dic1_at I h
    have hz' : (dictText (PyData.shownKv [(.str x, d)])).length ≤ sizeLine := by simpa only [PyData.shown] using hz
    have kz : ∀ p ∈ PyData.shownKv [(.str x, d)], p.length ≤ sizeLine := fun p hp => Nat.le_trans (dictText_mem_le hp) hz'
    have hl : (PyData.str x).shown.length ≤ sizeLine := by
      obtain ⟨p, hp, hl⟩ := PyData.shownKv_key_le [(.str x, d)] (PyData.str x).shown (by simp [PyData.shownAll])
      exact Nat.le_trans hl (kz p hp)
    have hl2 : d.shown.length ≤ sizeLine := by
      obtain ⟨p, hp, hl⟩ := PyData.shownKv_val_le [(.str x, d)] d.shown (by simp [PyData.shownAll])
      exact Nat.le_trans hl (kz p hp)
    obtain ⟨bs, hb, hk⟩ := Sh.reprK I t rv (by simpa [PyData.showable, PyData.showableKv] using hs) hl2
    obtain ⟨as, rd⟩ := Sh.reads I (.dic1 h n t) (show RelV (.ref a) (.ref a) from rfl)
    have hna := not_mem_of_deeper rd (by simp only [PyData.depth, PyData.depthKv]; omega) hb
    refine ⟨a :: bs, ReadAtMost.cons rd (by simp only [PyData.depth, PyData.depthKv]; omega) hb, ?_⟩
    have k1 : ReprK X.prog X.w bs s.heap (PyData.depthKv [(.str x, d)]) en.key (PyData.str x).shown := by
      rw [ek]
      simp only [PyData.shown]
      exact .of_is (ReprIs.str x t1 (by simpa only [PyData.shown] using hl)) _ _ _
    have k2 : ReprK X.prog X.w bs s.heap (PyData.depthKv [(.str x, d)]) en.val d.shown := hk.level_le (by simp only [PyData.depthKv]; omega)
    have := ReprK.dict (prog := X.prog) (w := X.w) ho hx hd sm hna (ReprEntriesK.of_two es.toList [(PyData.str x).shown] [d.shown] (by rw [e]; exact .cons k1 .nil) (by rw [e]; exact .cons k2 .nil))
    simp only [PyData.depth, PyData.shown, PyData.shownKv_eq]
    simpa [PyData.shownAll, PyData.shown] using this
theorem ShAll.reprK (I : Inv X pins σ H s) : ∀ {vs : List V} {ds : List PyData} {us : List Value}, ShAll H S vs ds → Vals vs us → PyData.showableAll ds = true → (∀ t ∈ PyData.shownAll ds, t.length ≤ sizeLine) →
    ∃ bs, ReadAtMost s.heap (PyData.depthAll ds) bs ∧ ReprAllK X.prog X.w bs s.heap (PyData.depthAll ds) us (PyData.shownAll ds)
  | _, _, _, .nil, r, _, _ => by
    cases r
    exact ⟨[], (fun _ h => nomatch h), by simp only [PyData.shownAll]; exact .nil⟩
  | _, _, _, .cons (d := d) (ds := ds) a b, r, hs, hz => by
    cases r with
    | cons r1 r2 =>
      have hs' : d.showable = true ∧ PyData.showableAll ds = true := by simpa [PyData.showableAll] using hs
      obtain ⟨b1, hb1, k1⟩ := Sh.reprK I a r1 hs'.1 (hz _ (by simp only [PyData.shownAll]; exact List.mem_cons_self))
      obtain ⟨b2, hb2, k2⟩ := ShAll.reprK I b r2 hs'.2 fun t ht => hz t (by simp only [PyData.shownAll]; exact List.mem_cons_of_mem _ ht)
      refine ⟨b1 ++ b2, ?_, ?_⟩
      · simp only [PyData.depthAll]
        exact (hb1.mono (Nat.le_max_left _ _)).append (hb2.mono (Nat.le_max_right _ _))
      · simp only [PyData.depthAll, PyData.shownAll]
        exact .cons ((k1.more fun b hb => List.mem_append_left _ hb).level_le (Nat.le_max_left _ _)) (k2.more_le (fun b hb => List.mem_append_right _ hb) (Nat.le_max_right _ _))
end
end
/-- can be shown -/
structure Shown (d : PyData) : Prop where
  sh : d.showable = true
  dp : d.depth ≤ 40
  ln : d.shown.length ≤ sizeLine
def rRepr : List V → Hp → VK → Prop := fun xs H Q => ∃ (v : V) (d : PyData) (S : Addr → Prop), xs = [v] ∧ Sh H S v d ∧ Shown d ∧ Q (.str d.shown) H
section
variable {X : Cx}
theorem call_reprG (hG : X.A.guards = some []) {k : Nat} (hr : Room k X.A) : CallR X (.builtin "repr") rRepr := by
  intro pins s σ H xs us Q I r h
  obtain ⟨v, d, S, rfl, hv, g, q⟩ := h
  obtain ⟨u, rfl, ru⟩ := vals1 r
  have hu := hr.units
  have hd := g.dp
  cases hv with
  | non =>
    cases ru
    exact PySem.P.repr_of_none ⟨.str _, H, I.tok _, ⟨s.toks, by simp only [PyData.shown]⟩, q⟩
  | bl b =>
    cases ru
    exact PySem.P.repr_of_bool ⟨.str _, H, I.tok _, ⟨s.toks, by simp only [PyData.shown]⟩, q⟩
  | int i =>
    obtain ⟨t, rfl⟩ := ru
    exact PySem.P.repr_of_int (by simpa [PyData.showable] using g.sh) ⟨.str _, H, I.tok _, ⟨s.toks, by simp only [PyData.shown]⟩, q⟩
  | str x =>
    obtain ⟨t, rfl⟩ := ru
    exact PySem.P.repr_of_str ⟨.str _, H, I.tok _, ⟨s.toks, by simp only [PyData.shown]⟩, q⟩ (by simpa only [PyData.shown] using g.ln)
  | lst h n t =>
    rename_i a xs ds
    cases ru
    obtain ⟨its, rv, ⟨o, k, ho, hc, _, hsq⟩, _⟩ := I.list (SqL.of h)
    have hz' : (listText (PyData.shownAll ds)).length ≤ sizeLine := by simpa only [PyData.shown] using g.ln
    obtain ⟨bs, hb, hk⟩ := ShAll.reprK I t rv (by simpa [PyData.showable] using g.sh) (fun t ht => Nat.le_trans (listText_mem_le ht) hz')
    obtain ⟨as, rd⟩ := Sh.reads I (.lst h n t) (show RelV (.ref a) (.ref a) from rfl)
    have hna := not_mem_of_deeper rd (by simp only [PyData.depth]; omega) hb
    have hdp := g.dp
    simp only [PyData.depth] at hdp
    simp only [PyData.shown] at q
    refine call_repr_slot (by omega) ⟨o, ho, hc⟩ PySem.F.slot_list_repr.toG ?_
    cases rv with
    | nil =>
      cases t
      simp only [PyData.shownAll, listText_nil] at q
      exact call_list_repr_empty ⟨o, ho, hc⟩ ho hsq ⟨_, _, rfl, .str _, H, I.tok _, ⟨_, rfl⟩, q⟩
    | cons r1 r2 =>
      exact call_list_reprK ho hc hsq hna (by simpa using hk.length_eq) (fun i y e => hk.item i y (by simpa using e)) hG (fun b _ => Clear.nil b) (by show X.A.units + 1 + _ < cLine; omega) (fun _ _ e => e) (fun h' u tk hk => ⟨_, _, rfl, .str _, H, I.kept hk, ⟨u, rfl⟩, q⟩) hz'
  | tup h n t =>
    rename_i a xs ds
    cases ru
    obtain ⟨its, rv, ⟨o, ho, hc, k, hd⟩, _⟩ := I.tuple (SqT.of h)
    have hz' : (tupleText (PyData.shownAll ds)).length ≤ sizeLine := by simpa only [PyData.shown] using g.ln
    obtain ⟨bs, hb, hk⟩ := ShAll.reprK I t rv (by simpa [PyData.showable] using g.sh) (fun t ht => Nat.le_trans (tupleText_mem_le ht) hz')
    obtain ⟨as, rd⟩ := Sh.reads I (.tup h n t) (show RelV (.ref a) (.ref a) from rfl)
    have hna := not_mem_of_deeper rd (by simp only [PyData.depth]; omega) hb
    have hdp := g.dp
    simp only [PyData.depth] at hdp
    simp only [PyData.shown] at q
    exact call_repr_slot (by omega) ⟨o, ho, hc⟩ PySem.F.slot_tuple_repr (call_tuple_reprK ho hc hd hna hk hG (fun b _ => Clear.nil b) (by show X.A.units + 1 + _ < cLine; omega) (fun _ _ e => e) (fun h' u tk hk => ⟨_, _, rfl, .str _, H, I.kept hk, ⟨u, rfl⟩, q⟩) hz')
  | dic0 h n =>
    rename_i a
    cases ru
    obtain ⟨o, es, ep, sm, ho, hx, hd, e⟩ := dic0_at I h
    have hdp := g.dp
    simp only [PyData.depth] at hdp
    simp only [PyData.shown, PyData.shownKv_eq] at q
    exact call_repr_slot (by omega) ⟨o, ho, hx⟩ PySem.F.slot_dict_repr (call_dict_reprK (as := []) (d := PyData.depthKv []) ho hx hd sm (fun z => nomatch z) (ReprEntriesK.of_two es.toList [] [] (by rw [e]; exact .nil) (by rw [e]; exact .nil)) hG (fun b _ => Clear.nil b) (by show X.A.units + 1 + _ < cLine; omega) (fun _ _ e => e) (fun h' u tk hk => ⟨_, _, rfl, .str _, H, I.kept hk, ⟨u, rfl⟩, q⟩) (by decide +kernel))
  | dic1 h n t =>
    rename_i a x v d
    cases ru
    obtain ⟨o, es, ep, en, t1, sm, ho, hx, hd, e, ek, rv⟩ := dic1_at I h
    have hz' : (dictText (PyData.shownKv [(.str x, d)])).length ≤ sizeLine := by simpa only [PyData.shown] using g.ln
    have kz : ∀ p ∈ PyData.shownKv [(.str x, d)], p.length ≤ sizeLine := fun p hp => Nat.le_trans (dictText_mem_le hp) hz'
    have hl : (PyData.str x).shown.length ≤ sizeLine := by
      obtain ⟨p, hp, hl⟩ := PyData.shownKv_key_le [(.str x, d)] (PyData.str x).shown (by simp [PyData.shownAll])
      exact Nat.le_trans hl (kz p hp)
    have hl2 : d.shown.length ≤ sizeLine := by
      obtain ⟨p, hp, hl⟩ := PyData.shownKv_val_le [(.str x, d)] d.shown (by simp [PyData.shownAll])
      exact Nat.le_trans hl (kz p hp)
    obtain ⟨bs, hb, hk⟩ := Sh.reprK I t rv (by simpa [PyData.showable, PyData.showableKv] using g.sh) hl2
    obtain ⟨as, rd⟩ := Sh.reads I (.dic1 h n t) (show RelV (.ref a) (.ref a) from rfl)
    have hna := not_mem_of_deeper rd (by simp only [PyData.depth, PyData.depthKv]; omega) hb
    have k1 : ReprK X.prog X.w bs s.heap (PyData.depthKv [(.str x, d)]) en.key (PyData.str x).shown := by
      rw [ek]
      simp only [PyData.shown]
      exact .of_is (ReprIs.str x t1 (by simpa only [PyData.shown] using hl)) _ _ _
    have k2 : ReprK X.prog X.w bs s.heap (PyData.depthKv [(.str x, d)]) en.val d.shown := hk.level_le (by simp only [PyData.depthKv]; omega)
    have hdp := g.dp
    simp only [PyData.depth] at hdp
    have E := ReprEntriesK.of_two es.toList [(PyData.str x).shown] [d.shown] (by rw [e]; exact .cons k1 .nil) (by rw [e]; exact .cons k2 .nil)
    have qe : (PyData.dict [(.str x, d)]).shown = dictText (List.zipWith (fun k v : Str => k ++ ": " ++ v) [(PyData.str x).shown] [d.shown]) := by
      simp only [PyData.shown, PyData.shownKv_eq, List.map_cons, List.map_nil, PyData.shownAll]
    rw [qe] at q
    have hz2 := g.ln
    rw [qe] at hz2
    exact call_repr_slot (by omega) ⟨o, ho, hx⟩ PySem.F.slot_dict_repr (call_dict_reprK ho hx hd sm hna E hG (fun b _ => Clear.nil b) (by show X.A.units + 1 + _ < cLine; omega) (fun _ _ e => e) (fun h' u tk hk => ⟨_, _, rfl, .str _, H, I.kept hk, ⟨u, rfl⟩, q⟩) hz2)

/-- a list display, its address not that of sys.modules -/
def tLstB (t : TA) : TE := fun σ H Q => t σ H fun xs H1 => xs.length ≤ sizeLine ∧
  ∀ p, H1 p = none → p ≠ sysModules → Q (.ref p) (upd H1 p (.lst xs))
theorem pe_lstB {es : List Expr} {t : TA} {pos : PySem.Pos} (h : PA X es t) : PE X (.List es pos) (tLstB t) := by
  constructor
  intro pins s σ H Q I hq
  refine wpAny_List_spliced (thn (h.run pos pins s σ H _ I hq) ?_)
  rintro us s1 ⟨xs, H1, I1, r, z, q⟩
  have new : H1 s1.heap.objs.size = none := I1.hok.fresh (Nat.le_refl _)
  refine ⟨r.length ▸ z, .ref s1.heap.objs.size, upd H1 s1.heap.objs.size (.lst xs),
    I1.laid (t' := s1.toks) (fun b u e => Heap.get?_push_of_some _ e) (Nat.le_refl _) ?_, rfl, q _ new (Nat.ne_of_gt I1.big)⟩
  exact ⟨z, us, 0, r, Heap.get?_push_size _ rfl⟩
end
theorem Sh.same {H H' : Hp} {S : Addr → Prop} {v : V} {d : PyData} (h : Sh H S v d) (s : Same H H') : Sh H' S v d := h.mono (fun _ z => z) fun a o _ e => s a o e
mutual
theorem Rep.sh {H : Hp} : ∀ {v : V} {d : D}, Rep H v d → Sh H (fun _ => False) v (dat d)
  | _, _, .int i => by
    rw [dat]
    exact .int i
  | _, _, .str y => by
    rw [dat, ← str_of (rfl : cp y = cp y)]
    exact .str y
  | _, _, .tup e r => by
    rw [dat]
    exact .tup e (fun z => z) (RepL.sh r)
theorem RepL.sh {H : Hp} : ∀ {vs : List V} {ds : List D}, RepL H vs ds → ShAll H (fun _ => False) vs (dats ds)
  | _, _, .nil => .nil
  | _, _, .cons a r => .cons (Rep.sh a) (RepL.sh r)
end
end K9

set_option maxHeartbeats 400000
/-! What is told when a reader is asked. -/
namespace K9
open PySem PySem.Spec PyProof.Rows L2 K2

theorem scAsked : FnScope ["_law_ask", "_law_value", "_law_caught", "_law_found", "error"] ["_law_ask", "_law_value"] (defScope sAsked) := ⟨rfl, rfl, rfl, by decide +kernel, rfl, by decide +kernel, by decide +kernel⟩
theorem tyx_same {K : PySem.W.Frag} {H H' : Hp} {v : V} {t : Value} (h : TyX K H v t) (s : Same H H') : TyX K H' v t := by
  cases h with
  | base b =>
    cases b with
    | non => exact .base .non
    | bl x => exact .base (.bl x)
    | int i => exact .base (.int i)
    | str x => exact .base (.str x)
    | flt x => exact .base (.flt x)
    | lst e => exact .base (.lst (s _ _ e))
    | frz e => exact .base (.frz (s _ _ e))
    | tup e => exact .base (.tup (s _ _ e))
    | dK e => exact .base (.dK (s _ _ e))
    | dT e => exact .base (.dT (s _ _ e))
    | ins e a b c d f => exact .base (.ins (s _ _ e) a b c d f)
  | byt b => exact .byt b
  | set e => exact .set (s _ _ e)
  | kList e c => exact .kList e c
  | kTuple e c => exact .kTuple e c
  | kDict e c => exact .kDict e c
  | fTuple e => exact .fTuple (s _ _ e)
  | fDict e => exact .fDict (s _ _ e)
/-- the two readers -/
def Reader (fE fP f : Addr) (few : List Nat → Prop) (rd : List Nat → Option (List D)) : Prop := (f = fE ∧ few = (fun _ => True) ∧ rd = rEdit) ∨ (f = fP ∧ few = (fun l => cnt 0 l < 62) ∧ rd = rPlan)
def spAsked (K : PySem.W.Frag) (fE fP : Addr) : Sp := fun vs H Q _ =>
  (∃ f few rd x, vs = [.ref f, .str x] ∧ Reader fE fP f few rd ∧ (cp x).length ≤ most ∧ few (cp x) ∧ (reprText x).length ≤ sizeLine ∧
    (∀ H' t v ds, rd (cp x) = some ds → Same H H' → H' t = some (.tup [.str "told", v]) → Rep H' v (.tup ds) → Q (.ref t) H') ∧
    (rd (cp x) = none → ∀ H' t, Same H H' → H' t = some (.tup [.str "none", .non]) → Q (.ref t) H')) ∨
  (∃ f few rd v T d S, vs = [.ref f, v] ∧ Reader fE fP f few rd ∧ TyX K H v (.type T) ∧ kitB T "str" = some false ∧ Sh H S v d ∧ Shown d ∧ ∀ H' t, Same H H' → H' t = some (.tup [.str "none", .non]) → Q (.ref t) H')
/-- what the written part says of the error classes -/
structure Errs (K : PySem.W.Frag) (mg : Str → Option Value) (CB CK CE CP CL : Addr) : Prop where
  gK : mg "BackError" = some (.ref CK)
  gT : mg "BadText" = some (.ref CB)
  gE : mg "BadEdit" = some (.ref CE)
  gP : mg "BadPlan" = some (.ref CP)
  gL : mg "BadLine" = some (.ref CL)
  ex : PySem.W.exmOne K (.ref CB) (.ref CK) = some true
  xf : XfC K CB
  nv : PySem.W.findIn K (.ref CB) "value" = some none
  ix : IxC K CB
  kT : PySem.W.kitOne K (.ref CB) (.ref CB) = some true
  kE : PySem.W.kitOne K (.ref CB) (.ref CE) = some false
  kP : PySem.W.kitOne K (.ref CB) (.ref CP) = some false
  kL : PySem.W.kitOne K (.ref CB) (.ref CL) = some false
  kV : PySem.W.kitOne K (.ref CB) (.type "ValueError") = some true
  mV : mg "ValueError" = none
section
variable {P : Program} {w : World} {K : PySem.W.Frag} {mg : Str → Option Value} {base : Heap}
theorem ok_asked {f fE fP CB CK CE CP CL : Addr} {fd : FuncData} (F : Fun K "_law_asked" "_law_asked" sAsked f fd) (Z : Bare mg) (R : Errs K mg CB CK CE CP CL)
    (A : ∀ f sp, ((f = fE ∧ sp = spReadF K CB (fun _ => True) rEdit) ∨ (f = fP ∧ sp = spReadF K CB (fun l => cnt 0 l < 62) rPlan)) → HeldX P w K mg base 129 f sp) :
    FnG P w K mg base 130 f fd ["_law_ask", "_law_value"] (spAsked K fE fP) := by
  refine FnG.mk' F scAsked (fun vs H Q E h => ?_) (fun cdv B fr s H vs Q E hG hr h => ?_)
  · rcases h with ⟨f, few, rd, x, rfl, _⟩ | ⟨f, few, rd, v, T, d, S, rfl, _⟩ <;> rfl
  · refine ⟨_, pss_cons (ps_asg (pe_tup (pa_cons pe_non (pa_cons pe_non pa_nil))) (pg_tup rfl (pgs_cons (pg_name (i := 2) scAsked.nd rfl (.inl rfl)) (pgs_cons (pg_name (i := 3) scAsked.nd rfl (.inl rfl)) pgs_nil))))
      (pss_keep (i := 4) rfl rfl scAsked.nd rfl rfl ⟨rfl, by decide, .inl R.gK⟩
        (fun W pn xe tk _ => pss_one (ps_set (i := 3) scAsked.nd rfl (.inl rfl) (pe_callX (i := 0) (E := WE W) A hr rfl (.inl rfl) (fun σ => passAt tk σ) (pa_cons (pv 1) pa_nil))))
        (fun a oe cls d pn hz hf => pss_one (ps_set (i := 2) scAsked.nd rfl (.inl rfl) (pv 4)))
        (fun a oe cls d hz hf => pss_cons (ps_if (pt_cmpR op_isN (pv 2) pe_non (nomark _)) (pss_one ps_never) pss_nil)
          (pss_cons (ps_if (PW.pt (pw_or (pt_not (pt_val (pe_callB (r := rIsK K CB a cls d) (call_isK R.ix hz hf) (by rfl) Z.isin (by decide +kernel) (pa_cons (pv 2) (pa_cons (pe_glob (v := .ref CB) rfl R.gT rfl) pa_nil)))))
              (pw_or1 (pt_val (pe_callB (r := rIsKT K CB a cls d) (call_isKT R.ix hz hf) (by rfl) Z.isin (by decide +kernel) (pa_cons (pv 2) (pa_cons (pe_tup (pa_cons (pe_glob (v := .ref CE) rfl R.gE rfl) (pa_cons (pe_glob (v := .ref CP) rfl R.gP rfl) (pa_cons (pe_glob (v := .ref CL) rfl R.gL rfl) pa_nil)))) pa_nil)))))))
            (pss_one ps_never) pss_nil)
          (pss_one (ps_ret (pe_ifExp (PW.pt (pw_and (pt_cmpR op_eq (pe_callB (call_reprG hG hr) (by rfl) Z.repr (by decide +kernel) (pa_cons (pe_xk R.xf R.nv hz hf (pv 2)) pa_nil)) (pe_callB (call_reprG hG hr) (by rfl) Z.repr (by decide +kernel) (pa_cons (pv 1) pa_nil)) (nomark _))
              (pw_and1 (pt_val (pe_callB (r := rIsK K CB a cls d) (call_isK R.ix hz hf) (by rfl) Z.isin (by decide +kernel) (pa_cons (pv 2) (pa_cons (pe_bltn (v := .ty "ValueError") (by rfl) R.mV (by decide +kernel) rfl) pa_nil)))))))
            (pe_tup (pa_cons pe_str (pa_cons pe_non pa_nil))) (pe_tup (pa_cons pe_str (pa_cons pe_non pa_nil))))))))
        (pss_cons (ps_if (pt_cmpR op_isN (pv 2) pe_non (nomark _)) (pss_one (ps_ret (pe_tup (pa_cons pe_str (pa_cons (pv 3) pa_nil))))) pss_nil)
          (pss_cons ps_never (pss_one ps_never)))), ?_⟩
    have three : PySem.W.kitAny K (.ref CB) [.ref CE, .ref CP, .ref CL] = some false := by
      refine kitAny_cons R.kE (fun _ => kitAny_cons R.kP (fun _ => kitAny_cons R.kL (fun _ => rfl) (fun z => nomatch z)) (fun z => nomatch z)) (fun z => nomatch z)
    rcases h with ⟨g, few, rd, x, rfl, rr, hm, hf, hl, q1, q2⟩ | ⟨g, few, rd, v, T, d, S, rfl, rr, ty, kt, sh, shn, q⟩
    · refine ⟨by show 2 ≤ _; decide, fun t0 n0 => ⟨t0, _, rfl, SqT.of upd_same, rfl, _, _, rfl, _, _, rfl, rfl, ?_⟩⟩
      have sm0 : Same H (upd H t0 (.tup [.non, .non])) := same_upd n0
      generalize upd H t0 (.tup [.non, .non]) = H0 at sm0 ⊢
      refine ⟨g, spReadF K CB few rd, rfl, ?_, _, rfl, .inl ⟨x, rfl, hm, hf, fun H1 v ds e sm1 rv => ?_, fun e dx H1 sm1 hd => ?_⟩⟩
      · rcases rr with ⟨rfl, rfl, rfl⟩ | ⟨rfl, rfl, rfl⟩
        · exact .inl ⟨rfl, rfl⟩
        · exact .inr ⟨rfl, rfl⟩
      · refine ⟨_, rfl, rfl, _, rfl, iteT ⟨_, rfl, by show 2 ≤ _; decide, fun t ht => ?_⟩⟩
        exact q1 _ t v ds e (sm0.trans (sm1.trans (same_upd ht))) upd_same (rv.keep (TupK.same (same_upd ht)))
      · refine ⟨R.ex, fun a na => ⟨_, rfl, ?_⟩⟩
        refine ⟨_, rfl, rfl, _, rfl, iteF ?_⟩
        refine ⟨_, rfl, .ref CB, _, true, dx, _, rfl, rfl, rfl, .own CB, hd, R.kT, _, rfl, iteF ?_⟩
        refine ⟨_, rfl, by show 3 ≤ _; decide, fun t3 n3 => ?_⟩
        have sm3 : Same H1 (upd H1 t3 (.tup [.ref CE, .ref CP, .ref CL])) := same_upd n3
        refine ⟨t3, _, _, false, dx, _, rfl, rfl, rfl, upd_same, .cons (.own CE) (.cons (.own CP) (.cons (.own CL) .nil)), sm3 _ _ hd, three, _, rfl, iteF ?_⟩
        generalize upd H1 t3 (.tup [.ref CE, .ref CP, .ref CL]) = H2 at sm3 ⊢
        have shx : Sh H2 (fun _ => False) (.str x) (.str x) := .str x
        have shn : Shown (.str x) := ⟨rfl, by simp [PyData.depth], by simpa only [PyData.shown] using hl⟩
        refine ⟨_, rfl, rfl, rfl, dx, _, .str x, rfl, sm3 _ _ hd, rfl, .str x, .str x, _, rfl, shx, shn, _, rfl, .str x, .str x, _, rfl, shx, shn, rfl, _, rfl, ?_⟩
        rw [decide_eq_true rfl]
        refine iteT ⟨_, rfl, .ty "ValueError", _, true, dx, _, rfl, rfl, rfl, .ty "ValueError", sm3 _ _ hd, R.kV, _, rfl, iteT ⟨by show 2 ≤ _; decide, fun t ht => ?_⟩⟩
        exact q2 e _ t (sm0.trans (sm1.trans (sm3.trans (same_upd ht)))) upd_same
    · refine ⟨by show 2 ≤ _; decide, fun t0 n0 => ⟨t0, _, rfl, SqT.of upd_same, rfl, _, _, rfl, _, _, rfl, rfl, ?_⟩⟩
      have sm0 : Same H (upd H t0 (.tup [.non, .non])) := same_upd n0
      generalize upd H t0 (.tup [.non, .non]) = H0 at sm0 ⊢
      refine ⟨g, spReadF K CB few rd, rfl, ?_, _, rfl, .inr ⟨v, T, rfl, tyx_same ty sm0, kt, fun dx H1 sm1 hd => ?_⟩⟩
      · rcases rr with ⟨rfl, rfl, rfl⟩ | ⟨rfl, rfl, rfl⟩
        · exact .inl ⟨rfl, rfl⟩
        · exact .inr ⟨rfl, rfl⟩
      · refine ⟨R.ex, fun a na => ⟨_, rfl, ?_⟩⟩
        refine ⟨_, rfl, rfl, _, rfl, iteF ?_⟩
        refine ⟨_, rfl, .ref CB, _, true, dx, _, rfl, rfl, rfl, .own CB, hd, R.kT, _, rfl, iteF ?_⟩
        refine ⟨_, rfl, by show 3 ≤ _; decide, fun t3 n3 => ?_⟩
        have sm3 : Same H1 (upd H1 t3 (.tup [.ref CE, .ref CP, .ref CL])) := same_upd n3
        refine ⟨t3, _, _, false, dx, _, rfl, rfl, rfl, upd_same, .cons (.own CE) (.cons (.own CP) (.cons (.own CL) .nil)), sm3 _ _ hd, three, _, rfl, iteF ?_⟩
        generalize upd H1 t3 (.tup [.ref CE, .ref CP, .ref CL]) = H2 at sm3 ⊢
        have shx : Sh H2 S v d := sh.same (sm0.trans (sm1.trans sm3))
        refine ⟨_, rfl, rfl, rfl, dx, _, v, rfl, sm3 _ _ hd, rfl, v, d, S, rfl, shx, shn, _, rfl, v, d, S, rfl, shx, shn, rfl, _, rfl, ?_⟩
        rw [decide_eq_true rfl]
        refine iteT ⟨_, rfl, .ty "ValueError", _, true, dx, _, rfl, rfl, rfl, .ty "ValueError", sm3 _ _ hd, R.kV, _, rfl, iteT ⟨by show 2 ≤ _; decide, fun t ht => ?_⟩⟩
        exact q _ t (sm0.trans (sm1.trans (sm3.trans (same_upd ht)))) upd_same
end
end K9

set_option maxHeartbeats 400000
/-! What is shown of plain data tells it. -/
namespace K9
open PySem PySem.Spec PyProof.Rows L2 K2

def pch (c : Nat) : Bool := isLet c || c == 42
mutual
/-- letters and stars alone; numbers of at most a hundred digits -/
def plain : D → Bool
  | .int i => decide ((pI i).length ≤ 101)
  | .str s => s.all pch
  | .tup ds => plains ds
def plains : List D → Bool
  | [] => true
  | d :: r => plain d && plains r
end
mutual
/-- the signs that are shown -/
def g : D → List Nat
  | .int i => pI i
  | .str s => 39 :: (s ++ [39])
  | .tup ds => 40 :: gt ds
/-- behind the bracket -/
def gt : List D → List Nat
  | [] => [41]
  | d :: r => g d ++ gm r
/-- behind the first one -/
def gm : List D → List Nat
  | [] => [44, 41]
  | d :: r => 44 :: 32 :: (g d ++ gn r)
/-- behind a further one -/
def gn : List D → List Nat
  | [] => [41]
  | d :: r => 44 :: 32 :: (g d ++ gn r)
end
/-- no digit comes next -/
def Cut : List Nat → Prop
  | [] => True
  | c :: _ => isDig c = false
theorem num_cut {l m x y : List Nat} (hl : ∀ c ∈ l, isDig c = true) (hm : ∀ c ∈ m, isDig c = true) (hx : Cut x) (hy : Cut y) (e : l ++ x = m ++ y) : l = m ∧ x = y := by
  have t : ∀ {l x : List Nat}, (∀ c ∈ l, isDig c = true) → Cut x → (l ++ x).takeWhile isDig = l := fun {l x} h c => by
    induction l with
    | nil =>
      cases x with
      | nil => rfl
      | cons a r =>
        have c : isDig a = false := c
        rw [List.nil_append, List.takeWhile_cons, c]
        rfl
    | cons a r ih =>
      rw [List.cons_append, List.takeWhile_cons, h a List.mem_cons_self, if_pos rfl, ih fun d hd => h d (List.mem_cons_of_mem _ hd)]
  have e1 : l = m := by rw [← t hl hx, e, t hm hy]
  subst e1
  exact ⟨rfl, List.append_cancel_left e⟩
theorem pN_isDig (n : Nat) : ∀ c ∈ pN n, isDig c = true := fun c hc => by
  have := pN_dig n c hc
  simp [isDig]
  omega
theorem pN_inj {m n : Nat} (e : pN m = pN n) : m = n := by
  have h1 := PySem.W.KIN.val_back m
  have h2 := PySem.W.KIN.val_back n
  have e1 : PySem.NumText.digitsVal (pN m) = m := h1
  have e2 : PySem.NumText.digitsVal (pN n) = n := h2
  rw [← e1, e, e2]
theorem pN_ne (n : Nat) : ∃ c r, pN n = c :: r ∧ isDig c = true := by
  have := pN_lt n
  cases h : pN n with
  | nil =>
    rw [h] at this
    have e0 : n = 0 := by simpa using this
    subst e0
    rw [pN_zero] at h
    cases h
  | cons c r => exact ⟨c, r, rfl, pN_isDig n c (by rw [h]; exact List.mem_cons_self)⟩
theorem pI_cut {i j : Int} {x y : List Nat} (hx : Cut x) (hy : Cut y) (e : pI i ++ x = pI j ++ y) : i = j ∧ x = y := by
  unfold pI at e
  have neg : ∀ {n : Nat} {x y : List Nat}, 45 :: x = pN n ++ y → False := fun {n x y} e => by
    obtain ⟨c, r, h, hc⟩ := pN_ne n
    rw [h] at e
    injection e with e _
    subst e
    exact absurd hc (by decide)
  by_cases hi : i < 0
  · rw [if_pos hi] at e
    by_cases hj : j < 0
    · rw [if_pos hj] at e
      injection e with _ e
      obtain ⟨e1, e2⟩ := num_cut (pN_isDig _) (pN_isDig _) hx hy e
      have := pN_inj e1
      exact ⟨by omega, e2⟩
    · rw [if_neg hj] at e
      exact (neg e).elim
  · rw [if_neg hi] at e
    by_cases hj : j < 0
    · rw [if_pos hj] at e
      exact (neg e.symm).elim
    · rw [if_neg hj] at e
      obtain ⟨e1, e2⟩ := num_cut (pN_isDig _) (pN_isDig _) hx hy e
      have := pN_inj e1
      exact ⟨by omega, e2⟩
theorem str_cut : ∀ {s u x y : List Nat}, s.all pch = true → u.all pch = true → s ++ 39 :: x = u ++ 39 :: y → s = u ∧ x = y
  | [], [], x, y, _, _, e => by
    injection e with _ e
    exact ⟨rfl, e⟩
  | [], c :: u, x, y, _, hu, e => by
    injection e with e _
    subst e
    simp [pch, isLet] at hu
  | c :: s, [], x, y, hs, _, e => by
    injection e with e _
    subst e
    simp [pch, isLet] at hs
  | c :: s, d :: u, x, y, hs, hu, e => by
    injection e with e1 e2
    rw [List.all_cons, Bool.and_eq_true] at hs hu
    obtain ⟨h1, h2⟩ := str_cut hs.2 hu.2 e2
    rw [e1, h1]
    exact ⟨rfl, h2⟩
theorem pI_head (i : Int) : ∃ c r, pI i = c :: r ∧ (c = 45 ∨ isDig c = true) := by
  unfold pI
  split
  · exact ⟨45, _, rfl, .inl rfl⟩
  · obtain ⟨c, r, h, hc⟩ := pN_ne i.natAbs
    exact ⟨c, r, h, .inr hc⟩
theorem g_head (d : D) : ∃ c r, g d = c :: r ∧ c ≠ 41 := by
  cases d with
  | int i =>
    obtain ⟨c, r, h, hc⟩ := pI_head i
    refine ⟨c, r, by rw [g, h], ?_⟩
    rintro rfl
    rcases hc with hc | hc
    · cases hc
    · exact absurd hc (by decide)
  | str s => exact ⟨39, _, by rw [g], by decide⟩
  | tup ds => exact ⟨40, _, by rw [g], by decide⟩
theorem cut_gm (r : List D) (x : List Nat) : Cut (gm r ++ x) := by
  cases r with
  | nil => rw [gm]; exact rfl
  | cons d r => rw [gm]; exact rfl
theorem cut_gn (r : List D) (x : List Nat) : Cut (gn r ++ x) := by
  cases r with
  | nil => rw [gn]; exact rfl
  | cons d r => rw [gn]; exact rfl
mutual
theorem g_inj : ∀ (a b : D) {x y : List Nat}, plain a = true → plain b = true → Cut x → Cut y → g a ++ x = g b ++ y → a = b ∧ x = y
  | .int i, .int j, x, y, _, _, hx, hy, e => by
    rw [g, g] at e
    obtain ⟨e1, e2⟩ := pI_cut hx hy e
    rw [e1]
    exact ⟨rfl, e2⟩
  | .str s, .str u, x, y, ha, hb, _, _, e => by
    rw [plain] at ha hb
    rw [g, g] at e
    injection e with _ e
    have e : (s ++ [39]) ++ x = (u ++ [39]) ++ y := e
    rw [List.append_assoc, List.append_assoc] at e
    obtain ⟨e1, e2⟩ := str_cut ha hb e
    rw [e1]
    exact ⟨rfl, e2⟩
  | .tup as, .tup bs, x, y, ha, hb, hx, hy, e => by
    rw [plain] at ha hb
    rw [g, g] at e
    injection e with _ e
    match as, bs, ha, hb, e with
    | [], [], _, _, e =>
      injection e with _ e
      exact ⟨rfl, e⟩
    | [], b :: t, _, _, e =>
      obtain ⟨c, r, h, hc⟩ := g_head b
      rw [gt, gt, h] at e
      injection e with e _
      exact absurd e.symm hc
    | a :: r, [], _, _, e =>
      obtain ⟨c, q, h, hc⟩ := g_head a
      rw [gt, gt, h] at e
      injection e with e _
      exact absurd e hc
    | a :: r, b :: t, ha, hb, e =>
      rw [plains, Bool.and_eq_true] at ha hb
      rw [gt, gt] at e
      have e : (g a ++ gm r) ++ x = (g b ++ gm t) ++ y := e
      rw [List.append_assoc, List.append_assoc] at e
      obtain ⟨e1, e2⟩ := g_inj a b ha.1 hb.1 (cut_gm ..) (cut_gm ..) e
      subst e1
      match r, t, ha.2, hb.2, e2 with
      | [], [], _, _, e2 =>
        injection e2 with _ e2
        injection e2 with _ e2
        exact ⟨rfl, e2⟩
      | [], b' :: t, _, _, e2 =>
        rw [gm, gm] at e2
        injection e2 with _ e2
        injection e2 with e2 _
        cases e2
      | a' :: r, [], _, _, e2 =>
        rw [gm, gm] at e2
        injection e2 with _ e2
        injection e2 with e2 _
        cases e2
      | a' :: r, b' :: t, hr, ht, e2 =>
        rw [plains, Bool.and_eq_true] at hr ht
        rw [gm, gm] at e2
        injection e2 with _ e2
        injection e2 with _ e2
        have e2 : (g a' ++ gn r) ++ x = (g b' ++ gn t) ++ y := e2
        rw [List.append_assoc, List.append_assoc] at e2
        obtain ⟨e3, e4⟩ := g_inj a' b' hr.1 ht.1 (cut_gn ..) (cut_gn ..) e2
        obtain ⟨e5, e6⟩ := gn_inj r t hr.2 ht.2 e4
        rw [e3, e5]
        exact ⟨rfl, e6⟩
  | .int i, .str u, x, y, _, _, _, _, e => by
    obtain ⟨c, r, h, hc⟩ := pI_head i
    rw [g, g, h] at e
    injection e with e _
    subst e
    rcases hc with hc | hc
    · cases hc
    · exact absurd hc (by decide)
  | .int i, .tup u, x, y, _, _, _, _, e => by
    obtain ⟨c, r, h, hc⟩ := pI_head i
    rw [g, g, h] at e
    injection e with e _
    subst e
    rcases hc with hc | hc
    · cases hc
    · exact absurd hc (by decide)
  | .str u, .int i, x, y, _, _, _, _, e => by
    obtain ⟨c, r, h, hc⟩ := pI_head i
    rw [g, g, h] at e
    injection e with e _
    subst e
    rcases hc with hc | hc
    · cases hc
    · exact absurd hc (by decide)
  | .tup u, .int i, x, y, _, _, _, _, e => by
    obtain ⟨c, r, h, hc⟩ := pI_head i
    rw [g, g, h] at e
    injection e with e _
    subst e
    rcases hc with hc | hc
    · cases hc
    · exact absurd hc (by decide)
  | .str _, .tup _, _, _, _, _, _, _, e => by
    rw [g, g] at e
    injection e with e _
    cases e
  | .tup _, .str _, _, _, _, _, _, _, e => by
    rw [g, g] at e
    injection e with e _
    cases e
theorem gn_inj : ∀ (as bs : List D) {x y : List Nat}, plains as = true → plains bs = true → gn as ++ x = gn bs ++ y → as = bs ∧ x = y
  | [], [], x, y, _, _, e => by
    rw [gn] at e
    injection e with _ e
    exact ⟨rfl, e⟩
  | [], b :: t, x, y, _, _, e => by
    rw [gn, gn] at e
    injection e with e _
    cases e
  | a :: r, [], x, y, _, _, e => by
    rw [gn, gn] at e
    injection e with e _
    cases e
  | a :: r, b :: t, x, y, ha, hb, e => by
    rw [plains, Bool.and_eq_true] at ha hb
    rw [gn, gn] at e
    injection e with _ e
    injection e with _ e
    have e : (g a ++ gn r) ++ x = (g b ++ gn t) ++ y := e
    rw [List.append_assoc, List.append_assoc] at e
    obtain ⟨e1, e2⟩ := g_inj a b ha.1 hb.1 (cut_gn ..) (cut_gn ..) e
    obtain ⟨e3, e4⟩ := gn_inj r t ha.2 hb.2 e2
    rw [e1, e3]
    exact ⟨rfl, e4⟩
end
/-! ### it is what repr gives -/
theorem rch_plain : ∀ c, pch c = true → Builtin.Str.reprChar 39 c = [c] := by
  have h : ∀ c < 128, pch c = true → Builtin.Str.reprChar 39 c = [c] := by decide +kernel
  intro c hc
  refine h c ?_ hc
  simp [pch, isLet] at hc
  omega
theorem repr_plain {y : Str} (h : (cp y).all pch = true) : cp (reprText y) = 39 :: (cp y ++ [39]) := by
  have q : reprQuote y = 39 := by
    unfold reprQuote
    have : y.cps.contains 39 = false := by
      rw [Bool.eq_false_iff]
      intro z
      have z : 39 ∈ y.cps := by simpa using z
      have := List.all_eq_true.mp h 39 (by simpa [cp] using z)
      simp [pch, isLet] at this
    rw [this]
    rfl
  unfold reprText
  rw [q]
  have f : ∀ (l : List Nat) (a : Array Nat), (∀ c ∈ l, pch c = true) → (l.foldl (fun out c => out ++ (Builtin.Str.reprChar 39 c).toArray) a).toList = a.toList ++ l := fun l => by
    induction l with
    | nil => intro a _; simp
    | cons c r ih =>
      intro a hc
      rw [List.foldl_cons, ih _ fun d hd => hc d (List.mem_cons_of_mem _ hd), rch_plain c (hc c List.mem_cons_self)]
      simp
  have e := f (cp y) #[39] fun c hc => List.all_eq_true.mp h c hc
  show (Array.push (y.cps.foldl (fun out c => out ++ (Builtin.Str.reprChar 39 c).toArray) #[39]) 39).toList = _
  rw [Array.toList_push, ← Array.foldl_toList]
  rw [show (y.cps.toList.foldl (fun out c => out ++ (Builtin.Str.reprChar 39 c).toArray) #[39]).toList = [39] ++ cp y from e]
  simp
theorem join_gm : ∀ (a : Str) (ts : List Str), cp (Str.join ", " (a :: ts)) = cp a ++ (ts.map fun t => 44 :: 32 :: cp t).flatten
  | a, [] => by simp [Str.join]
  | a, b :: ts => by
    have e : Str.join ", " (a :: b :: ts) = a ++ ", " ++ Str.join ", " (b :: ts) := rfl
    rw [e, cp_app, cp_app, join_gm b ts, show cp (", " : Str) = [44, 32] by decide +kernel]
    simp
theorem gn_flat : ∀ ds : List D, gn ds = (ds.map fun d => 44 :: 32 :: g d).flatten ++ [41]
  | [] => by rw [gn]; rfl
  | d :: r => by
    rw [gn, gn_flat r]
    simp
mutual
theorem shown_g : ∀ {d : D}, plain d = true → cp (dat d).shown = g d
  | .int i, _ => by
    rw [dat, PyData.shown, g]
    exact str_int i
  | .str s, h => by
    rw [plain] at h
    rw [dat, PyData.shown, g, repr_plain (by rw [cp_of]; exact h), cp_of]
  | .tup ds, h => by
    rw [plain] at h
    have ih := shown_gs h
    rw [dat, PyData.shown, g]
    unfold tupleText
    rw [cp_app, cp_app, show cp ("(" : Str) = [40] by decide +kernel]
    cases ds with
    | nil =>
      rw [dats, PyData.shownAll]
      decide +kernel
    | cons d r =>
      rw [dats, PyData.shownAll] at ih ⊢
      rw [List.map_cons, List.map_cons] at ih
      injection ih with i1 i2
      rw [join_gm, i1]
      have e2 : ((PyData.shownAll (dats r)).map fun t => 44 :: 32 :: cp t) = r.map fun d => 44 :: 32 :: g d := by
        have := congrArg (List.map fun l => 44 :: 32 :: l) i2
        rw [List.map_map, List.map_map] at this
        exact this
      rw [e2, gt]
      cases r with
      | nil =>
        rw [gm]
        have : ((dat d).shown :: PyData.shownAll (dats [])).length == 1 := by
          rw [dats, PyData.shownAll]
          rfl
        rw [if_pos this, show cp (Str.ofString ",)") = [44, 41] by decide +kernel]
        simp
      | cons e t =>
        rw [gm, gn_flat]
        have : ¬ (((dat d).shown :: PyData.shownAll (dats (e :: t))).length == 1) = true := by
          rw [dats, PyData.shownAll]
          simp
        rw [if_neg this, show cp (Str.ofString ")") = [41] by decide +kernel]
        simp
theorem shown_gs : ∀ {ds : List D}, plains ds = true → (PyData.shownAll (dats ds)).map cp = ds.map g
  | [], _ => by rw [dats, PyData.shownAll]; rfl
  | d :: r, h => by
    rw [plains, Bool.and_eq_true] at h
    rw [dats, PyData.shownAll, List.map_cons, List.map_cons, shown_g h.1, shown_gs h.2]
end
theorem shown_inj {a b : D} (ha : plain a = true) (hb : plain b = true) (e : (dat a).shown = (dat b).shown) : a = b := by
  have := congrArg cp e
  rw [shown_g ha, shown_g hb] at this
  exact (g_inj a b (x := []) (y := []) ha hb trivial trivial (by rw [this])).1
mutual
theorem plain_showable : ∀ {d : D}, plain d = true → (dat d).showable = true
  | .int i, h => by
    rw [plain, decide_eq_true_eq] at h
    rw [dat]
    simp only [PyData.showable, decide_eq_true_eq]
    have := pI_lt h
    have e : (10 : Nat) ^ 101 < 2 ^ 1920 := by decide +kernel
    exact bits_le (Nat.lt_trans this e) (by decide)
  | .str s, _ => by rw [dat]; rfl
  | .tup ds, h => by
    rw [plain] at h
    rw [dat, PyData.showable]
    exact plains_showable h
theorem plains_showable : ∀ {ds : List D}, plains ds = true → PyData.showableAll (dats ds) = true
  | [], _ => rfl
  | d :: r, h => by
    rw [plains, Bool.and_eq_true] at h
    rw [dats, PyData.showableAll, plain_showable h.1, plains_showable h.2]
    rfl
end
end K9

set_option maxHeartbeats 400000
/-! Whether it has the form of a plan. -/
namespace K9
open PySem PySem.Spec PyProof.Rows L2 K2

/-- len(set(xs)), xs texts -/
def tLenSetTx (K : PySem.W.Frag) (ta : TE) : TE := fun σ H Q => ta σ H fun x H1 => ∃ (l : Addr) (xs : List Str), x = V.ref l ∧ SqL K H1 l (xs.map V.str) ∧ xs.length + 1 < scanBound ∧ ∀ n : Nat, n ≤ xs.length → (n = xs.length ↔ xs.Nodup) → Q (.int n) H1
theorem strs_at : ∀ {xs : List Str} {us : List Value}, Vals (xs.map V.str) us → ∀ (i : Nat) (v : Value), us[i]? = some v → ∃ x t, xs[i]? = some x ∧ v = Value.str x t
  | [], _, r, i, v, h => by
    cases r
    simp at h
  | x :: xs, _, .cons r1 r2, 0, v, h => by
    obtain ⟨t, rfl⟩ := r1
    cases h
    exact ⟨x, t, rfl, rfl⟩
  | x :: xs, _, .cons r1 r2, i + 1, v, h => strs_at r2 i v h
section
variable {X : Cx}
theorem pe_lenSetTx {a : Expr} {ta : TE} {p p2 q pos : PySem.Pos} (hc : X.calm = true) (hg : Gl X "len") (hm : X.mg "len" = none) (hg2 : Gl X "set") (hm2 : X.mg "set" = none) (ha : PE X a ta)
    (na : starEach [a] X.env = (false, eval a X.env) :: starEach [] X.env := by rfl) : PE X (.Call (.Name "len" p) [.Call (.Name "set" p2) [a] [] q] [] pos) (tLenSetTx X.K ta) := by
  refine ⟨fun pins s σ H Q I h => ?_⟩
  refine Call_ (ld_blt I hg hm PySem.boot_len ?_)
  refine PyProof.Rows.callWith_builtin1 (PyProof.Rows.args_cons ?_ rfl) rfl rfl
  refine Call_ (ld_blt I hg2 hm2 PyProof.Rows.boot_set ?_)
  refine PyProof.Rows.callWith_type1 (PyProof.Rows.args_cons (thn (ha.run pins s σ H _ I h) fun v s1 ⟨x, H1, I1, r1, q1⟩ => PyProof.Rows.args_nil ?_) na) na rfl
  obtain ⟨l, xs, rfl, hl, few, q1⟩ := q1
  cases r1
  obtain ⟨its, rv, pl, hz⟩ := I1.list hl
  refine NS.call_setT xs (I1.ok.hd hc) pl.isList (fun i v e => strs_at rv i v (by rw [← e]; simp)) (by rw [List.size_toArray, ← rv.length, List.length_map]) few fun h' tk S c hs cm keep => ?_
  refine PyProof.Rows.args_nil ?_
  have cl := cm.len
  have cn := cm.nd
  rw [List.take_length] at cn
  obtain ⟨o, es, ep, t, ho, hex, hd, _, _, hb, hf, hn⟩ := hs
  have I2 : Inv X pins σ H1 { s1 with heap := h', toks := tk } := I1.kept keep
  have sb : scanBound = 4096 := rfl
  refine call_len_set ho hex hd hf (by rw [hn]; omega) ⟨.int c, H1, I2.tok _, ⟨_, by rw [hn]⟩, q1 c cl cn⟩
end

/-- what a deed is known by -/
def mark : D → D
  | .tup (.str w :: a :: r) => if w = txt "order" then .tup (.str w :: a :: r.take 1) else a
  | d => d
theorem DeedFine.marks {d : D} (h : DeedFine d) : ∃ w r, d = .tup (.str w :: r) ∧ ((w = txt "order" ∧ ∃ f n rs, r = [.str f, .str n, rs] ∧ mark d = .tup [.str w, .str f, .str n] ∧ K9.about d = .tup [.str f, .str n]) ∨
    (w ≠ txt "order" ∧ ∃ f o p t, r = .tup [.str f, .str o, .tup p] :: t ∧ mark d = .tup [.str f, .str o, .tup p] ∧ K9.about d = .tup [.str f, .str o, .tup p])) := by
  have ng : ¬ txt "gone" = txt "order" := by decide +kernel
  have ns : ¬ txt "set" = txt "order" := by decide +kernel
  cases h with
  | order f n ds _ _ _ => exact ⟨_, _, rfl, .inl ⟨rfl, f, n, _, rfl, by rw [mark, if_pos rfl]; rfl, by rw [K9.about, if_pos rfl]; rfl⟩⟩
  | gone f o p _ _ _ => exact ⟨_, _, rfl, .inr ⟨ng, f, o, p, _, rfl, by rw [mark, if_neg ng], by rw [K9.about, if_neg ng]⟩⟩
  | set f o p v _ _ _ _ _ _ => exact ⟨_, _, rfl, .inr ⟨ns, f, o, p, _, rfl, by rw [mark, if_neg ns], by rw [K9.about, if_neg ns]⟩⟩
theorem mark_about {d e : D} (h1 : DeedFine d) (h2 : DeedFine e) (h : mark d = mark e) : K9.about d = K9.about e := by
  obtain ⟨w, r, _, k1⟩ := h1.marks
  obtain ⟨w', r', _, k2⟩ := h2.marks
  rcases k1 with ⟨_, f, n, rs, _, m1, a1⟩ | ⟨_, f, o, p, t, _, m1, a1⟩
  · rcases k2 with ⟨_, f', n', rs', _, m2, a2⟩ | ⟨_, f', o', p', t', _, m2, a2⟩
    · rw [m1, m2] at h
      cases h
      rw [a1, a2]
    · rw [m1, m2] at h
      cases h
  · rcases k2 with ⟨_, f', n', rs', _, m2, a2⟩ | ⟨_, f', o', p', t', _, m2, a2⟩
    · rw [m1, m2] at h
      cases h
    · rw [a1, a2, ← m1, ← m2, h]
theorem marks_nodup {ds : List D} (fine : ∀ d ∈ ds, DeedFine d ∧ plain (mark d) = true) (nd : (ds.map K9.about).Nodup) : (ds.map fun d => (dat (mark d)).shown).Nodup := by
  unfold List.Nodup at nd ⊢
  rw [List.pairwise_map] at nd ⊢
  refine List.Pairwise.imp_of_mem (fun {a b} ha hb h e => h ?_) nd
  obtain ⟨f1, p1⟩ := fine a ha
  obtain ⟨f2, p2⟩ := fine b hb
  exact mark_about f1 f2 (shown_inj p1 p2 e)
theorem mark_dep {d : D} (h : DeedFine d) : (dat (mark d)).depth ≤ 40 := by
  obtain ⟨w, r, e, k⟩ := h.marks
  rcases k with ⟨_, f, n, rs, rfl, m1, a1⟩ | ⟨_, f, o, p, t, rfl, m1, a1⟩
  · rw [m1]
    simp [dat, dats, PyData.depth, PyData.depthAll]
  · rw [m1]
    have hp : ∀ x ∈ p, Atom x := by
      rw [e] at h
      cases h with
      | gone _ _ _ _ _ hp => exact fun x hx => (hp x hx).1
      | set _ _ _ _ _ _ hp _ _ _ => exact fun x hx => (hp x hx).1
    have := dep_atoms hp
    simp [dat, dats, PyData.depth, PyData.depthAll, this]
theorem scPFine : FnScope ["_law_found", "_law_sizes", "_law_marks", "_law_deed"] ["_law_found"] (defScope sPFine) := ⟨rfl, rfl, rfl, by decide +kernel, rfl, by decide +kernel, by decide +kernel⟩
def sizesP : List (Key × V) := mergeK [] [(.inr "set", .int 3), (.inr "gone", .int 2), (.inr "order", .int 4)]
theorem DeedFine.size {d : D} (h : DeedFine d) : ∃ w r, d = .tup (.str w :: r) ∧ (∀ y : Str, cp y = w → valV sizesP (.inr y) = some (.int ((r.length + 1 : Nat) : Int))) ∧ (w = txt "set" → ∃ p v, r = [p, v] ∧ Atom v ∧ LitOk v) := by
  have key : ∀ (s : Str) (w : List Nat) (n : Int), cp s = w → valV sizesP (.inr s) = some (.int n) → ∀ y : Str, cp y = w → valV sizesP (.inr y) = some (.int n) := fun s w n hs hv y hy => by
    rw [cp_inj (hy.trans hs.symm)]
    exact hv
  cases h with
  | order f n ds _ _ _ => exact ⟨_, _, rfl, key "order" _ _ cp_order (show valV sizesP (.inr "order") = some (.int 4) by decide +kernel), fun e => absurd e (by decide +kernel)⟩
  | gone f o p _ _ _ => exact ⟨_, _, rfl, key "gone" _ _ cp_gone (show valV sizesP (.inr "gone") = some (.int 2) by decide +kernel), fun e => absurd e (by decide +kernel)⟩
  | set f o p v _ _ _ av _ lv => exact ⟨_, _, rfl, key "set" _ _ cp_set (show valV sizesP (.inr "set") = some (.int 3) by decide +kernel), fun _ => ⟨_, v, rfl, av, lv⟩⟩
def spPFine : Sp := fun vs H Q _ => ∃ v ds, vs = [v] ∧ Rep H v (.tup ds) ∧ (∀ d ∈ ds, DeedFine d ∧ plain (mark d) = true) ∧ (∀ d ∈ ds, (g (mark d)).length ≤ sizeLine) ∧ (ds.map K9.about).Nodup ∧ ds.length ≤ 100 ∧ ∀ H', Same H H' → Q (.bl true) H'
section
variable {P : Program} {w : World} {K : PySem.W.Frag} {mg : Str → Option Value} {base : Heap}
theorem ok_pFine {f fL : Addr} {fd fdL : FuncData} (F : Fun K "_law_plan_fine" "_law_plan_fine" sPFine f fd) (Z : Bare mg) (mT : mg "tuple" = none) (mS : mg "set" = none)
    (kL : PySem.W.keepIn K (.ref fL) = true) (bL : Binds K fdL ["_law_value"] []) (gL : mg "_law_is_literal" = some (.ref fL)) (GL : FnOk P w K mg base CX0 1 fL fdL ["_law_value"] spIsLit) :
    FnG P w K mg base 2 f fd ["_law_found"] spPFine := by
  refine FnG.mk' F scPFine (fun vs H Q E h => ?_) (fun cdv B fr s H vs Q E hG hr h => ?_)
  · obtain ⟨v, d, rfl, _⟩ := h
    rfl
  · obtain ⟨v, ds, rfl, rv, fine, gl, ndp, nd, q⟩ := h
    refine ⟨_, pss_cons (ps_set (i := 1) scPFine.nd rfl (.inr rfl) (pe_disp (pps_cons pe_str pe_int (pps_cons pe_str pe_int (pps_cons pe_str pe_int pps_nil))) (by rfl) (by rfl) (fun z => by cases z) (by decide)))
      (pss_cons (ps_if (PW.pt (pw_or (pt_not (pt_val (pe_callB (r := rIsi K) call_isi (by rfl) Z.isin (by decide +kernel)
          (pa_cons (pv 0) (pa_cons (pe_bltn (v := .ty "tuple") (by rfl) mT (by decide +kernel) rfl) pa_nil)))))
        (pw_or1 (pt_not (pt_val (pe_callB (cr_all rfl) (by rfl) Z.all (by decide +kernel) (pa_cons
          (pe_lc (own := [("_law_deed", 3)]) (g := gName 3) (tt := tYes) rfl scPFine.nd (pi_tup (pv 0))
            (blkOk_by (N := ["_law_found", "_law_sizes", "_law_marks", "_law_deed"]) (sc := defScope sPFine) (by decide +kernel))
            (fun _ _ _ _ _ => pg_name (i := 3) scPFine.nd rfl (Or.inl rfl)) (fun _ _ _ _ _ => pts_nil)
            (fun _ _ _ _ _ => pe_cmpR op_eq (pe_callB (r := rLen K) call_lenK (by rfl) Z.len PySem.boot_len (pa_cons (pv 3) pa_nil)) (pe_dget2 (hu_of hr) (pv 1) (pe_ix (r := rIxT K) ix_tup (pv 3) pe_int (fun _ _ => rfl)) pe_int (by constructor <;> rfl)) (nomark _))) pa_nil)))))))
        (pss_one (ps_ret pe_bl)) pss_nil)
      (pss_cons (ps_setLc (i := 2) (own := [("_law_deed", 3)]) (g := gName 3) (tt := tYes) rfl scPFine.nd rfl rfl (sw_true rfl rfl rfl (by decide +kernel)) (pi_tup (pv 0))
            (blkOk_by (N := ["_law_found", "_law_sizes", "_law_marks", "_law_deed"]) (sc := defScope sPFine) (by decide +kernel))
            (fun _ _ _ _ _ => pg_name (i := 3) scPFine.nd rfl (Or.inl rfl)) (fun _ _ _ _ _ => pts_nil)
            (fun _ _ _ _ _ => pe_callB (r := rRepr) (call_reprG hG hr) (by rfl) Z.repr (by decide +kernel) (pa_cons
              (pe_ifExp (pt_cmpR op_eq (pe_ix (r := rIxT K) ix_tup (pv 3) pe_int (fun _ _ => rfl)) pe_str (nomark _)) (pe_slice (r := rSlT K) sl_tup (pv 3) po_none (po_some pe_int)) (pe_ix (r := rIxT K) ix_tup (pv 3) pe_int (fun _ _ => rfl))) pa_nil)))
      (pss_one (ps_ret (pe_and (pe_cmpR op_eq (pe_lenSetTx rfl (by rfl) Z.len (by rfl) mS (pv 2)) (pe_callB call_len_seq (by rfl) Z.len PySem.boot_len (pa_cons (pv 2) pa_nil)) (nomark _))
        (pe_one (pe_callB (cr_all rfl) (by rfl) Z.all (by decide +kernel) (pa_cons
          (pe_lc (own := [("_law_deed", 3)]) (g := gName 3) (tt := tYes) rfl scPFine.nd (pi_tup (pv 0))
            (blkOk_by (N := ["_law_found", "_law_sizes", "_law_marks", "_law_deed"]) (sc := defScope sPFine) (by decide +kernel))
            (fun _ _ _ _ _ => pg_name (i := 3) scPFine.nd rfl (Or.inl rfl)) (fun _ _ _ _ _ => pts_nil)
            (fun _ _ _ _ _ => pe_or (pe_cmpR op_ne (pe_ix (r := rIxT K) ix_tup (pv 3) pe_int (fun _ _ => rfl)) pe_str (nomark _)) (pe_one (pe_call GL hr (by rfl) gL kL bL .nil pass0 (pa_cons (pe_ix (r := rIxT K) ix_tup (pv 3) pe_int (fun _ _ => rfl)) pa_nil))))) pa_nil)))))))), ?_⟩
    cases rv with
    | tup ht rs =>
    rename_i t vs
    have vl := rs.len
    refine fun D hD => ?_
    refine ⟨upd_same, [(.inr "set", .int 3), (.inr "gone", .int 2), (.inr "order", .int 4)], rfl, by decide, ?_⟩
    have sm1 : Same H (upd (upd H D (.dK [])) D (.dK sizesP)) := fun a o e => by
      rw [upd_ne (ne_of_none e hD), upd_ne (ne_of_none e hD)]
      exact e
    have hZ : upd (upd H D (.dK [])) D (.dK sizesP) D = some (.dK sizesP) := upd_same
    show gName 1 (V.ref D) _ (upd (upd H D (.dK [])) D (.dK sizesP)) _
    generalize upd (upd H D (.dK [])) D (.dK sizesP) = H1 at sm1 hZ ⊢
    have ht1 := sm1 _ _ ht
    have rs1 := rs.keep (TupK.same sm1)
    refine ⟨_, rfl, _, .ty "tuple", _, .type "tuple", true, rfl, .ty "tuple", .base (.tup ht1), kit_ty (by decide +kernel), _, rfl, iteF ?_⟩
    have small : ∀ {n : Nat}, n ≤ 100 → n < sizeLine := fun h => Nat.lt_of_le_of_lt h (by decide)
    have nlt : ∀ {i : Nat}, i < ds.length → ((List.replicate i true).map V.bl).length < sizeLine := fun h => by
      rw [List.length_map, List.length_replicate]
      exact small (by omega)
    have at_ : ∀ {G : Hp} {i : Nat} {x : V}, Same H1 G → i < vs.length → vs[i]? = some x → ∃ d w r t y us, ds[i]? = some d ∧ d = .tup (.str w :: r) ∧ x = .ref t ∧ G t = some (.tup (.str y :: us)) ∧ cp y = w ∧ RepL G us r ∧ DeedFine d ∧ plain (mark d) = true ∧ (g (mark d)).length ≤ sizeLine := by
      intro G i x sm hi hx
      have hi' : i < ds.length := by rw [← vl]; exact hi
      obtain ⟨d, hd⟩ : ∃ d, ds[i]? = some d := ⟨_, List.getElem?_eq_getElem hi'⟩
      obtain ⟨v, hv, rv⟩ := rs1.get hd
      obtain rfl : v = x := Option.some.inj (hv.symm.trans hx)
      obtain ⟨f1, f2⟩ := fine d (List.mem_of_getElem? hd)
      obtain ⟨w, r, e, _⟩ := f1.size
      have rv' := rv.keep (TupK.same sm)
      rw [e] at rv'
      obtain ⟨t, y, us, e2, h1, h2, h3⟩ := rep_head rv'
      exact ⟨d, w, r, t, y, us, hd, e, e2, h1, h2, h3, f1, f2, gl d (List.mem_of_getElem? hd)⟩
    refine ⟨_, rfl, t, rfl, ⟨_, SqT.of ht1⟩, fun D1 n1 => ?_⟩
    refine lc_it (walk_tup (K := K) (a := t) (xs := vs)) (fun i G => G = upd H1 D1 (.lst ((List.replicate i true).map V.bl))) rfl (fun i G _ z => by rw [z]; exact SqT.of (same_upd n1 _ _ ht1)) ?_ ?_
    · rintro i x G G' hi rfl ⟨rfl, hx⟩
      have sm := same_upd (o := .lst ((List.replicate i true).map V.bl)) n1
      obtain ⟨d, wd, r, ts, y, us, hd, rfl, rfl, hts, hy, rus, f1, f2, f3⟩ := at_ sm hi hx
      obtain ⟨_, _, e, hsz, _⟩ := f1.size
      cases e
      have ul := rus.len
      refine ⟨rfl, _, rfl, ts, _, rfl, .inr (SqT.of hts), _, rfl, D, rfl, .inl ⟨sizesP, .inl (sm _ _ hZ)⟩, _, rfl, ts, _, 0, _, rfl, rfl, SqT.of hts, atI_nat (j := 0) rfl, some (.int ((r.length + 1 : Nat) : Int)), ?_, rfl, ?_⟩
      · have g := DGet.k (k := .inr y) (sm _ _ hZ)
        rw [hsz y hy] at g
        exact g
      · have e1 : decide (V.int (((V.str y :: us).length : Nat) : Int) = V.int ((r.length + 1 : Nat) : Int)) = true := by
          rw [List.length_cons, ul]
          exact decide_eq_true rfl
        refine ⟨_, upd_same, nlt (by rw [← vl]; exact hi), ?_⟩
        show upd _ D1 (.lst (_ ++ [V.bl (decide (V.int (((V.str y :: us).length : Nat) : Int) = V.int ((r.length + 1 : Nat) : Int)))])) = _
        rw [e1]
        exact rep_true
    rintro G rfl
    have sm2 : Same H1 (upd H1 D1 (.lst ((List.replicate vs.length true).map V.bl))) := same_upd n1
    refine ⟨D1, _, rfl, SqL.of upd_same, _, rfl, ?_⟩
    rw [all_true]
    refine iteF ?_
    generalize upd H1 D1 (.lst ((List.replicate vs.length true).map V.bl)) = H2 at sm2 ⊢
    have ht2 := sm2 _ _ ht1
    -- the marks
    refine ⟨_, rfl, t, rfl, ⟨_, SqT.of ht2⟩, fun D2 n2 => ?_⟩
    refine lc_it (walk_tup (K := K) (a := t) (xs := vs)) (fun i G => G D2 = some (.lst ((((ds.take i).map fun d => (dat (mark d)).shown)).map V.str)) ∧ Same H2 G) ⟨upd_same, same_upd n2⟩ (fun i G _ z => SqT.of (z.2 _ _ ht2)) ?_ ?_
    · rintro i x G G' hi ⟨hG, smG⟩ ⟨rfl, hx⟩
      obtain ⟨d, wd, r, ts, y, us, hd, ed, rfl, hts, hy, rus, f1, f2, f3⟩ := at_ (sm2.trans smG) hi hx
      have sl : (dat (mark d)).shown.length ≤ sizeLine := by
        rw [← cp_len, shown_g f2]
        exact f3
      have shn : Shown (dat (mark d)) := ⟨plain_showable f2, mark_dep f1, sl⟩
      have next : ∀ {G2 : Hp}, Same G' G2 → upd G2 D2 (.lst ((((ds.take i).map fun d => (dat (mark d)).shown)).map V.str ++ [V.str (dat (mark d)).shown])) D2 = some (.lst ((((ds.take (i + 1)).map fun d => (dat (mark d)).shown)).map V.str)) ∧ Same H2 (upd G2 D2 (.lst ((((ds.take i).map fun d => (dat (mark d)).shown)).map V.str ++ [V.str (dat (mark d)).shown]))) := fun {G2} smx => by
        refine ⟨?_, fun b o hb => ?_⟩
        · rw [upd_same, List.take_add_one, hd, List.map_append, List.map_append]
          rfl
        · rw [upd_ne (ne_of_none hb n2)]
          exact smx _ _ (smG _ _ hb)
      have len2 : ((((ds.take i).map fun d => (dat (mark d)).shown)).map V.str).length < sizeLine := by
        rw [List.length_map, List.length_map, List.length_take]
        exact small (by omega)
      refine ⟨rfl, _, rfl, ts, _, 0, _, rfl, rfl, SqT.of hts, atI_nat (j := 0) rfl, rfl, _, rfl, ?_⟩
      rw [dec_str, hy, cp_order]
      obtain ⟨w', r', ed', k⟩ := f1.marks
      have er := ed.symm.trans ed'
      cases er
      rcases k with ⟨e, f', n', rs', rfl, m1, _⟩ | ⟨ne, f', o', p', t', rfl, m1, _⟩
      · rw [decide_eq_true e]
        cases rus with | cons q0 rus => cases rus with | cons q1 rus => cases rus with | cons q2 rus =>
        cases rus
        rename_i u0 u1 u2
        refine iteT ⟨_, rfl, 3, rfl, ts, _, rfl, SqT.of hts, ?_, fun p2 hp2 => ?_⟩
        · intro z
          exact absurd z.2 (show ¬ HT.sIx 4 4 (some 3) = 4 by decide)
        · have s2 : Same G' (upd G' p2 (.tup [.str y, u0, u1])) := same_upd hp2
          have rm : Rep (upd G' p2 (.tup [.str y, u0, u1])) (.ref p2) (mark d) := by
            rw [m1]
            exact .tup upd_same (.cons (Rep.str' hy) (.cons (q0.keep (TupK.same s2)) (.cons (q1.keep (TupK.same s2)) .nil)))
          exact ⟨_, _, _, rfl, rm.sh, shn, _, s2 _ _ hG, len2, next s2⟩
      · rw [decide_eq_false ne]
        cases rus with | cons q0 rus =>
        rename_i u0 ur
        have rm : Rep G' u0 (mark d) := by
          rw [m1]
          exact q0
        exact iteF ⟨_, rfl, ts, _, 1, _, rfl, rfl, SqT.of hts, atI_nat (j := 1) rfl, _, _, _, rfl, rm.sh, shn, _, hG, len2, next (Same.refl G')⟩
    · rintro G ⟨hG, smG⟩
      rw [vl, List.take_length] at hG
      have nm := marks_nodup fine ndp
      have ht3 := smG _ _ ht2
      have sm13 := sm2.trans smG
      have sbn : scanBound = 4096 := rfl
      refine ⟨_, rfl, D2, ds.map fun d => (dat (mark d)).shown, rfl, SqL.of hG, by rw [List.length_map]; omega, fun n h1 h2 => ?_⟩
      have en : n = ds.length := by
        rw [h2.mpr nm, List.length_map]
      refine ⟨_, rfl, D2, _, rfl, .inl (SqL.of hG), rfl, ?_⟩
      refine ⟨_, rfl, ite2 (fun _ => ?_) (fun e => ?_)⟩
      · refine ⟨_, rfl, t, rfl, ⟨_, SqT.of ht3⟩, fun D3 n3 => ?_⟩
        refine lc_it (walk_tup (K := K) (a := t) (xs := vs)) (fun i G' => G' D3 = some (.lst ((List.replicate i true).map V.bl)) ∧ Same G G') ⟨upd_same, same_upd n3⟩ (fun i G' _ z => SqT.of (z.2 _ _ ht3)) ?_ ?_
        · rintro i x G1 G' hi ⟨hG, smG⟩ ⟨rfl, hx⟩
          obtain ⟨d, wd, r, ts, y, us, hd, rfl, rfl, hts, hy, rus, f1, f2, _⟩ := at_ (sm13.trans smG) hi hx
          obtain ⟨_, _, e, _, hl⟩ := f1.size
          cases e
          have next : ∀ {G2 : Hp}, Same G' G2 → upd G2 D3 (.lst ((List.replicate i true).map V.bl ++ [V.bl true])) D3 = some (.lst ((List.replicate (i + 1) true).map V.bl)) ∧ Same G (upd G2 D3 (.lst ((List.replicate i true).map V.bl ++ [V.bl true]))) := fun {G2} smx => by
            refine ⟨?_, fun b o hb => ?_⟩
            · rw [upd_same, List.replicate_succ', List.map_append]
              rfl
            · rw [upd_ne (ne_of_none hb n3)]
              exact smx _ _ (smG _ _ hb)
          refine ⟨rfl, _, rfl, ts, _, 0, _, rfl, rfl, SqT.of hts, atI_nat (j := 0) rfl, rfl, _, rfl, ?_⟩
          refine ite2 (fun _ => ?_) (fun e => ?_)
          · exact ⟨_, hG, nlt (by rw [← vl]; exact hi), next (Same.refl G')⟩
          · have ew : wd = txt "set" := by
              by_cases z : wd = txt "set"
              · exact z
              · refine absurd ?_ e
                show (!decide (V.str y = V.str "set")) = true
                rw [dec_str, hy, cp_set, decide_eq_false z]
                rfl
            obtain ⟨p, v, rfl, av, lv⟩ := hl ew
            cases rus with | cons _ rus => cases rus with | cons r2 rus =>
            refine ⟨_, rfl, ts, _, 2, _, rfl, rfl, SqT.of hts, atI_nat (j := 2) rfl, _, v, rfl, r2, av, lv, fun H' smx => ?_⟩
            exact ⟨_, smx _ _ hG, nlt (by rw [← vl]; exact hi), next smx⟩
        · rintro G1 ⟨hG, smG⟩
          refine ⟨D3, _, rfl, SqL.of hG, ?_⟩
          rw [all_true]
          exact q _ (sm1.trans (sm13.trans smG))
      · refine absurd ?_ e
        rw [en]
        exact decide_eq_true (by rw [List.length_map, List.length_map])
end
end K9

set_option maxHeartbeats 400000
/-! Pages bent: what is kept. -/
namespace K9
open PySem PySem.Spec PyProof.Rows L2 K2

/-- the longest row of digits; k of them are behind -/
def run : Nat → List Nat → Nat
  | k, [] => k
  | k, a :: r => if isDig a = true then run (k + 1) r else max k (run 0 r)
theorem run_ge : ∀ (l : List Nat) (k : Nat), k ≤ run k l ∧ run 0 l ≤ run k l
  | [], k => ⟨Nat.le_refl _, Nat.zero_le _⟩
  | a :: r, k => by
    rw [run, run]
    have h1 := run_ge r (k + 1)
    have h2 := run_ge r 1
    split
    · refine ⟨by omega, ?_⟩
      have : ∀ (l : List Nat) (j k : Nat), j ≤ k → run j l ≤ run k l := fun l => by
        induction l with
        | nil => intro j k h; exact h
        | cons b t ih =>
          intro j k h
          rw [run, run]
          split
          · exact ih _ _ (by omega)
          · omega
      exact this r _ _ (by omega)
    · omega
theorem run_le : ∀ (l : List Nat) (k : Nat), run k l ≤ k + run 0 l
  | [], k => Nat.le_refl _
  | a :: r, k => by
    rw [run, run]
    have h1 := run_le r (k + 1)
    have h2 := (run_ge r 1).1
    have h3 := (run_ge r 1).2
    split
    · have : ∀ (l : List Nat) (j k : Nat), run (k + j) l ≤ k + run j l := fun l => by
        induction l with
        | nil => intro j k; exact Nat.le_refl _
        | cons b t ih =>
          intro j k
          rw [run, run]
          split
          · have := ih (j + 1) k
            rw [← Nat.add_assoc] at this
            exact this
          · omega
      have := this r 1 k
      exact this
    · omega
theorem run_app : ∀ (a b : List Nat) (k : Nat), run k (a ++ b) ≤ run k a + run 0 b
  | [], b, k => by
    rw [run, List.nil_append]
    exact run_le b k
  | x :: a, b, k => by
    rw [List.cons_append, run, run]
    have h1 := run_app a b (k + 1)
    have h0 := run_app a b 0
    split
    · exact h1
    · omega
theorem run_take : ∀ (a b : List Nat) (k : Nat), run k a ≤ run k (a ++ b)
  | [], b, k => (run_ge b k).1
  | x :: a, b, k => by
    rw [List.cons_append, run, run]
    have h1 := run_take a b (k + 1)
    have h0 := run_take a b 0
    split
    · exact h1
    · omega
theorem run_drop : ∀ (a b : List Nat) (k : Nat), run 0 b ≤ run k (a ++ b)
  | [], b, k => (run_ge b k).2
  | x :: a, b, k => by
    rw [List.cons_append, run]
    have h1 := run_drop a b (k + 1)
    have h0 := run_drop a b 0
    split
    · exact h1
    · omega
theorem run_digits : ∀ (l r : List Nat) (k : Nat), (∀ c ∈ l, isDig c = true) → k + l.length ≤ run k (l ++ r)
  | [], r, k, _ => (run_ge r k).1
  | c :: l, r, k, h => by
    rw [List.cons_append, run, if_pos (h c List.mem_cons_self), List.length_cons]
    have := run_digits l r (k + 1) fun d hd => h d (List.mem_cons_of_mem _ hd)
    omega
/-- a measure of pages -/
structure Msr (μ : List Nat → Nat) : Prop where
  app : ∀ a b, μ (a ++ b) ≤ μ a + μ b + 1
  take : ∀ a b, μ a ≤ μ (a ++ b)
  drop : ∀ a b, μ b ≤ μ (a ++ b)
  nil : μ [] = 0
  sep : μ [32] = 0
theorem msr_cnt : Msr (cnt 0) := ⟨fun a b => cnt_app a b 0, fun a b => cnt_take a b 0, fun a b => cnt_drop a b 0, rfl, by decide⟩
theorem msr_run : Msr (run 0) := ⟨fun a b => by have := run_app a b 0; omega, fun a b => run_take a b 0, fun a b => run_drop a b 0, rfl, by decide⟩
section
variable {μ : List Nat → Nat} (M : Msr μ)
include M
theorem Msr.lead (l : List Nat) : μ ([32] ++ l) ≤ μ l + 1 := by
  have := M.app [32] l
  have := M.sep
  omega
theorem joinL_app : ∀ {A B : List (List Nat)}, A ≠ [] → B ≠ [] → joinL [32] (A ++ B) = joinL [32] A ++ ([32] ++ joinL [32] B)
  | [], _, h, _ => absurd rfl h
  | [a], b :: B, _, _ => by
    show joinL [32] (a :: b :: B) = _
    rw [joinL]
    simp [joinL]
  | a :: a' :: A, B, _, hB => by
    show joinL [32] (a :: a' :: (A ++ B)) = _
    have ih := joinL_app (A := a' :: A) (B := B) (fun z => nomatch z) hB
    rw [joinL, joinL]
    rw [show joinL [32] (a' :: (A ++ B)) = joinL [32] (a' :: A) ++ ([32] ++ joinL [32] B) from ih]
    simp
theorem Msr.join (A B : List (List Nat)) : μ (joinL [32] (A ++ B)) ≤ μ (joinL [32] A) + μ (joinL [32] B) + 2 := by
  by_cases hA : A = []
  · subst hA
    rw [List.nil_append]
    omega
  · by_cases hB : B = []
    · subst hB
      rw [List.append_nil]
      omega
    · rw [joinL_app M hA hB]
      have h1 := M.app (joinL [32] A) ([32] ++ joinL [32] B)
      have h2 := M.lead (joinL [32] B)
      omega
theorem Msr.take_ (A B : List (List Nat)) : μ (joinL [32] A) ≤ μ (joinL [32] (A ++ B)) := by
  by_cases hA : A = []
  · subst hA
    rw [joinL, M.nil]
    exact Nat.zero_le _
  · by_cases hB : B = []
    · subst hB
      rw [List.append_nil]
      exact Nat.le_refl _
    · rw [joinL_app M hA hB]
      exact M.take _ _
theorem Msr.drop_ (A B : List (List Nat)) : μ (joinL [32] B) ≤ μ (joinL [32] (A ++ B)) := by
  by_cases hB : B = []
  · subst hB
    rw [joinL, M.nil]
    exact Nat.zero_le _
  · by_cases hA : A = []
    · subst hA
      rw [List.nil_append]
      exact Nat.le_refl _
    · rw [joinL_app M hA hB]
      exact Nat.le_trans (M.drop [32] _) (M.drop _ _)
theorem Msr.taken (ws : List (List Nat)) (k : Nat) : μ (joinL [32] (ws.take k)) ≤ μ (joinL [32] ws) := by
  have := M.take_ (ws.take k) (ws.drop k)
  rwa [List.take_append_drop] at this
theorem Msr.dropped (ws : List (List Nat)) (k : Nat) : μ (joinL [32] (ws.drop k)) ≤ μ (joinL [32] ws) := by
  have := M.drop_ (ws.take k) (ws.drop k)
  rwa [List.take_append_drop] at this
theorem Msr.one (ws : List (List Nat)) (w : List Nat) (h : w ∈ ws) : μ w ≤ μ (joinL [32] ws) := by
  obtain ⟨A, B, rfl⟩ := List.append_of_mem h
  have h1 := M.drop_ A (w :: B)
  have h2 := M.take_ [w] B
  rw [show joinL [32] [w] = w from rfl] at h2
  exact Nat.le_trans h2 h1
/-- two words exchanged -/
theorem Msr.turned (ws : List (List Nat)) (k : Nat) : μ (joinL [32] ((ws.drop k).take 2).reverse) ≤ 2 * μ (joinL [32] ws) + 2 := by
  have mem : ∀ w ∈ (ws.drop k).take 2, μ w ≤ μ (joinL [32] ws) := fun w hw => M.one ws w (List.mem_of_mem_drop (List.mem_of_mem_take hw))
  have len : ((ws.drop k).take 2).length ≤ 2 := by rw [List.length_take]; omega
  generalize (ws.drop k).take 2 = t at mem len
  match t, len with
  | [], _ =>
    show μ [] ≤ _
    rw [M.nil]
    exact Nat.zero_le _
  | [a], _ =>
    have := mem a List.mem_cons_self
    show μ a ≤ _
    omega
  | [a, b], _ =>
    have h1 := mem a List.mem_cons_self
    have h2 := mem b (List.mem_cons_of_mem _ List.mem_cons_self)
    have := M.join [b] [a]
    show μ (joinL [32] ([b] ++ [a])) ≤ _
    rw [show joinL [32] [b] = b from rfl, show joinL [32] [a] = a from rfl] at this
    omega
end
/-- the words' lengths, one more for each -/
def wl (ws : List (List Nat)) : Nat := (ws.map fun w => w.length + 1).sum
theorem wl_join : ∀ ws : List (List Nat), (joinL [32] ws).length ≤ wl ws
  | [] => Nat.le_refl _
  | [a] => by simp [joinL, wl]
  | a :: b :: r => by
    have := wl_join (b :: r)
    rw [joinL, List.length_append, List.length_append]
    simp only [wl, List.map_cons, List.sum_cons, List.length_cons, List.length_nil] at this ⊢
    omega
theorem wl_page : ∀ {ws : List (List Nat)}, ws ≠ [] → wl ws = (joinL [32] ws).length + 1
  | [], h => absurd rfl h
  | [a], _ => by simp [joinL, wl]
  | a :: b :: r, _ => by
    have := wl_page (ws := b :: r) fun z => nomatch z
    rw [joinL, List.length_append, List.length_append]
    simp only [wl, List.map_cons, List.sum_cons, List.length_cons, List.length_nil] at this ⊢
    omega
theorem wl_app (A B : List (List Nat)) : wl (A ++ B) = wl A + wl B := by simp [wl]
theorem wl_take (ws : List (List Nat)) (k : Nat) : wl (ws.take k) + wl (ws.drop k) = wl ws := by
  rw [← wl_app, List.take_append_drop]
theorem wl_rev (ws : List (List Nat)) : wl ws.reverse = wl ws := by
  simp [wl, List.sum_reverse]
end K9

set_option maxHeartbeats 400000
/-! A text with something otherwise. -/
namespace K9
open PySem PySem.Spec PyProof.Rows L2 K2

theorem vals_get : ∀ {xs : List V} {us : List Value}, us.length = xs.length → (∀ (i : Nat) (x : V) (u : Value), xs[i]? = some x → us[i]? = some u → RelV x u) → Vals xs us
  | [], [], _, _ => .nil
  | [], _ :: _, h, _ => by simp at h
  | _ :: _, [], h, _ => by simp at h
  | x :: xs, u :: us, h, r => .cons (r 0 x u rfl rfl) (vals_get (by simpa using h) fun i y v hy hv => r (i + 1) y v (by simpa using hy) (by simpa using hv))

section
variable {X : Cx}
/-- list(a text) -/
theorem call_listS (hc : X.calm = true) : CallR X (.type "list") (fun xs H Q => ∃ z : Str, xs = [.str z] ∧ z.length ≤ sizeLine ∧
    ∀ l, H l = none → Q (.ref l) (upd H l (.lst (z.cps.toList.map fun c => V.str ⟨#[c]⟩)))) := by
  intro pins s σ H xs us Q I r h
  obtain ⟨z, rfl, hz, q⟩ := h
  obtain ⟨u, rfl, ru⟩ := vals1 r
  obtain ⟨t, rfl⟩ := ru
  refine call_list_str (I.ok.hd hc) z t (hn := hz) fun h' tk acc c hk hS hacc => ?_
  refine ⟨.ref s.heap.objs.size, _, I.laid (t' := tk) hk (Nat.le_refl _) ?_, rfl, q _ (I.hok.fresh (Nat.le_refl _))⟩
  refine ⟨by simpa [Str.length] using hz, acc.toList, c, vals_get (by simp [hacc.1]) fun i x u hx hu => ?_, by simpa using hS⟩
  obtain ⟨d, v, hd, rfl⟩ := hacc.2 i u (by simpa using hu)
  rw [List.getElem?_map] at hx
  have hd' : z.cps.toList[i]? = some d := by simpa using hd
  rw [hd'] at hx
  cases hx
  exact ⟨v, rfl⟩
end

theorem scBent : FnScope ["_law_box_here", "_law_page", "_law_other", "_law_words", "_law_way", "_law_at", "_law_spot", "_law_odd", "_law_mates"] ["_law_box_here", "_law_page", "_law_other"] (defScope sBent) := ⟨rfl, rfl, rfl, by decide +kernel, rfl, by decide +kernel, by decide +kernel⟩
def signsW : Str := " #\"{}[]-.;/:0a1|~"
def put4 : List Str := ["  ", "\n", "; ", " | "]
def oddL : List Str := ["", "-", "-0", "01", "#01", "#-1", "x", "\"x", "main//", "main/a", "main/a.", "{", "]", "A:", "set", "*"]
def endL : List Str := ["; ", " ", "; -"]
def oddAll : List (List Nat) := (((cp signsW).map fun c => [c]) ++ (put4 ++ oddL ++ endL).map cp)
/-- what a bent page keeps of both -/
structure Bent (p o z : List Nat) : Prop where
  len : z.length ≤ p.length + max p.length o.length + 10
  ms : ∀ μ, Msr μ → (∀ w ∈ oddAll, μ w ≤ 2) → μ z ≤ 4 * max (μ p) (μ o) + 12
theorem odd_len : ∀ w ∈ oddAll, w.length ≤ 7 := by decide +kernel
section
variable {p o : List Nat}
theorem bent_put {k : Nat} {w : List Nat} (hw : w ∈ oddAll) : Bent p o (p.take k ++ w ++ p.drop k) := by
  refine ⟨?_, fun μ M h => ?_⟩
  · have := odd_len w hw
    rw [List.length_append, List.length_append, List.length_take, List.length_drop]
    omega
  · have h1 := M.app (p.take k ++ w) (p.drop k)
    have h2 := M.app (p.take k) w
    have h3 := M.take (p.take k) (p.drop k)
    have h4 := M.drop (p.take k) (p.drop k)
    rw [List.take_append_drop] at h3 h4
    have h5 := h w hw
    omega
theorem bent_out {k : Nat} : Bent p o (p.take k ++ p.drop (k + 1)) := by
  refine ⟨?_, fun μ M h => ?_⟩
  · rw [List.length_append, List.length_take, List.length_drop]
    omega
  · have h1 := M.app (p.take k) (p.drop (k + 1))
    have h3 := M.take (p.take k) (p.drop k)
    have h4 := M.drop (p.take (k + 1)) (p.drop (k + 1))
    rw [List.take_append_drop] at h3 h4
    omega
theorem bent_end {w : List Nat} (hw : w ∈ oddAll) : Bent p o (p ++ w) := by
  refine ⟨?_, fun μ M h => ?_⟩
  · have := odd_len w hw
    rw [List.length_append]
    omega
  · have h1 := M.app p w
    have h5 := h w hw
    omega
variable {ws ms : List (List Nat)} (hw : joinL [32] ws = p) (hm : joinL [32] ms = o) (nw : ws ≠ []) (nm : ms ≠ [])
include hw nw
theorem bent_less {k : Nat} : Bent p o (joinL [32] (ws.take k ++ ws.drop (k + 1))) ∧ wl (ws.take k ++ ws.drop (k + 1)) ≤ 2 * p.length + 10 := by
  have e := wl_page nw
  rw [hw] at e
  have e1 := wl_take ws k
  have e2 : wl (ws.drop (k + 1)) ≤ wl (ws.drop k) := by
    have := wl_take (ws.drop k) 1
    rw [List.drop_drop] at this
    omega
  have e3 := wl_join (ws.take k ++ ws.drop (k + 1))
  rw [wl_app] at e3 ⊢
  refine ⟨⟨by omega, fun μ M h => ?_⟩, by omega⟩
  have h1 := M.join (ws.take k) (ws.drop (k + 1))
  have h2 := M.taken ws k
  have h3 := M.dropped ws (k + 1)
  rw [hw] at h2 h3
  omega
theorem bent_twice {k : Nat} : Bent p o (joinL [32] (ws.take (k + 1) ++ ws.drop k)) ∧ wl (ws.take (k + 1) ++ ws.drop k) ≤ 2 * p.length + 10 := by
  have e := wl_page nw
  rw [hw] at e
  have e1 := wl_take ws k
  have e4 := wl_take ws (k + 1)
  have e3 := wl_join (ws.take (k + 1) ++ ws.drop k)
  rw [wl_app] at e3 ⊢
  refine ⟨⟨by omega, fun μ M h => ?_⟩, by omega⟩
  have h1 := M.join (ws.take (k + 1)) (ws.drop k)
  have h2 := M.taken ws (k + 1)
  have h3 := M.dropped ws k
  rw [hw] at h2 h3
  omega
theorem bent_turn {k : Nat} : Bent p o (joinL [32] (ws.take k ++ ((ws.drop k).take 2).reverse ++ ws.drop (k + 2))) ∧ wl (ws.take k ++ ((ws.drop k).take 2).reverse ++ ws.drop (k + 2)) ≤ 2 * p.length + 10 := by
  have e := wl_page nw
  rw [hw] at e
  have e1 := wl_take ws k
  have e4 := wl_take (ws.drop k) 2
  rw [List.drop_drop] at e4
  have e3 := wl_join (ws.take k ++ ((ws.drop k).take 2).reverse ++ ws.drop (k + 2))
  rw [wl_app, wl_app, wl_rev] at e3 ⊢
  refine ⟨⟨by omega, fun μ M h => ?_⟩, by omega⟩
  have h1 := M.join (ws.take k ++ ((ws.drop k).take 2).reverse) (ws.drop (k + 2))
  have h4 := M.join (ws.take k) ((ws.drop k).take 2).reverse
  have h2 := M.taken ws k
  have h3 := M.dropped ws (k + 2)
  have h5 := M.turned ws k
  rw [hw] at h2 h3 h5
  omega
theorem bent_word {k : Nat} {w : List Nat} (ho : w ∈ oddAll) : Bent p o (joinL [32] (ws.take k ++ [w] ++ ws.drop (k + 1))) ∧ wl (ws.take k ++ [w] ++ ws.drop (k + 1)) ≤ 2 * p.length + 20 := by
  have e := wl_page nw
  rw [hw] at e
  have e1 := wl_take ws k
  have e2 : wl (ws.drop (k + 1)) ≤ wl (ws.drop k) := by
    have := wl_take (ws.drop k) 1
    rw [List.drop_drop] at this
    omega
  have ol := odd_len w ho
  have e3 := wl_join (ws.take k ++ [w] ++ ws.drop (k + 1))
  have e5 : wl [w] = w.length + 1 := by simp [wl]
  rw [wl_app, wl_app, e5] at e3 ⊢
  refine ⟨⟨by omega, fun μ M h => ?_⟩, by omega⟩
  have h1 := M.join (ws.take k ++ [w]) (ws.drop (k + 1))
  have h4 := M.join (ws.take k) [w]
  rw [show joinL [32] [w] = w from rfl] at h4
  have h2 := M.taken ws k
  have h3 := M.dropped ws (k + 1)
  have h5 := h w ho
  rw [hw] at h2 h3
  omega
include hm nm
theorem bent_mates {k j : Nat} : Bent p o (joinL [32] (ws.take k ++ ms.drop j)) ∧ wl (ws.take k ++ ms.drop j) ≤ p.length + o.length + 10 := by
  have e := wl_page nw
  rw [hw] at e
  have e' := wl_page nm
  rw [hm] at e'
  have e1 := wl_take ws k
  have e2 := wl_take ms j
  have e3 := wl_join (ws.take k ++ ms.drop j)
  rw [wl_app] at e3 ⊢
  refine ⟨⟨by omega, fun μ M h => ?_⟩, by omega⟩
  have h1 := M.join (ws.take k) (ms.drop j)
  have h2 := M.taken ws k
  have h3 := M.dropped ms j
  rw [hw] at h2
  rw [hm] at h3
  omega
end
/-! ### words of a text -/
theorem join_cpS (a : Str) : ∀ ys : List Str, cp (Str.join a ys) = joinL (cp a) (ys.map cp)
  | [] => rfl
  | [y] => rfl
  | y :: z :: r => by
    have e : Str.join a (y :: z :: r) = y ++ a ++ Str.join a (z :: r) := rfl
    rw [e, cp_app, cp_app, join_cpS a (z :: r)]
    rfl
theorem words_of (x : Str) : joinL [32] ((Txt.split x " ").map cp) = cp x := by
  have := congrArg cp (StrLaws.join_split x " ")
  rw [join_cpS, cp_blank] at this
  exact this
theorem words_ne (x : Str) : (Txt.split x " ").map cp ≠ [] := by
  have := split_pos x " "
  intro z
  have := congrArg List.length z
  rw [List.length_map] at this
  simp only [List.length_nil] at this
  omega
theorem cut_to (xs : List V) (k : Nat) (h : k ≤ xs.length) : cutV xs none (some (k : Int)) = xs.take k := by
  unfold cutV
  rw [HT.sIx_none, HT.sIx_nat, List.drop_zero, Nat.sub_zero, Nat.min_eq_left h]
theorem cut_from (xs : List V) (k : Nat) : cutV xs (some (k : Int)) none = xs.drop k := by
  unfold cutV
  rw [HT.sIx_none, HT.sIx_nat]
  by_cases h : k ≤ xs.length
  · rw [Nat.min_eq_left h]
    exact List.take_of_length_le (by rw [List.length_drop]; exact Nat.le_refl _)
  · rw [Nat.min_eq_right (by omega), List.drop_of_length_le (Nat.le_refl _), List.drop_of_length_le (by omega)]
    simp
theorem cut_two2 (xs : List V) (k : Nat) : cutV xs (some (k : Int)) (some ((k + 2 : Nat) : Int)) = (xs.drop k).take 2 := by
  unfold cutV
  rw [HT.sIx_nat, HT.sIx_nat]
  by_cases h : k ≤ xs.length
  · rw [Nat.min_eq_left h]
    by_cases h2 : k + 2 ≤ xs.length
    · rw [Nat.min_eq_left h2, show k + 2 - k = 2 by omega]
    · rw [Nat.min_eq_right (by omega), List.take_of_length_le (by rw [List.length_drop]; exact Nat.le_refl _), List.take_of_length_le (by rw [List.length_drop]; omega)]
  · rw [Nat.min_eq_right (show xs.length ≤ k by omega), Nat.min_eq_right (show xs.length ≤ k + 2 by omega), List.drop_of_length_le (Nat.le_refl _), List.drop_of_length_le (show xs.length ≤ k by omega)]
    simp
theorem cutS_to (x : Str) (k : Nat) (h : k ≤ (cp x).length) : cp (cutS x none (some (k : Int))) = (cp x).take k := by
  have ll := cp_len x
  unfold cutS
  rw [HT.sIx_none, HT.sIx_nat, cp_of, List.drop_zero, Nat.sub_zero, Nat.min_eq_left (by omega)]
theorem cutS_from (x : Str) (k : Nat) : cp (cutS x (some (k : Int)) none) = (cp x).drop k := by
  have ll := cp_len x
  unfold cutS
  rw [HT.sIx_none, HT.sIx_nat, cp_of]
  have e0 : x.cps.toList = cp x := rfl
  rw [e0]
  by_cases h : k ≤ x.length
  · rw [Nat.min_eq_left h]
    exact List.take_of_length_le (by rw [List.length_drop]; omega)
  · rw [Nat.min_eq_right (by omega), List.drop_of_length_le (by omega), List.drop_of_length_le (by omega)]
    simp
def spBent : Sp := fun vs H Q _ => ∃ (b : Addr) (p o : Str) (c : Int), vs = [.ref b, .str p, .str o] ∧ Box c H b ∧ c ≤ 190000 ∧ (cp p).length ≤ 250000 ∧ (cp o).length ≤ 250000 ∧ ∀ H' z, Kept b H H' → Box (c + 5) H' b → Bent (cp p) (cp o) (cp z) → Q (.str z) H'
section
variable {P : Program} {w : World} {K : PySem.W.Frag} {mg : Str → Option Value} {base : Heap}
theorem ok_bent {f fT fO : Addr} {fd fdT fdO : FuncData} (F : Fun K "_law_bent_text" "_law_bent_text" sBent f fd) (Z : Bare mg)
    (kT : PySem.W.keepIn K (.ref fT) = true) (bT : Binds K fdT ["_law_box_here", "_law_many"] []) (gT : mg "_law_take" = some (.ref fT)) (GT : FnOk P w K mg base CX0 1 fT fdT ["_law_box_here", "_law_many"] spTake)
    (kO : PySem.W.keepIn K (.ref fO) = true) (bO : Binds K fdO ["_law_box_here", "_law_some"] []) (gO : mg "_law_of" = some (.ref fO)) (GO : FnOk P w K mg base CX0 2 fO fdO ["_law_box_here", "_law_some"] spOf) :
    FnOk P w K mg base CX0 3 f fd ["_law_box_here", "_law_page", "_law_other"] spBent := by
  refine F.ok scBent (fun vs H Q E h => ?_) (fun cdv A outer s H vs Q E hr h => ?_)
  · obtain ⟨b, p, o, c, rfl, _⟩ := h
    rfl
  · obtain ⟨b, p, o, c, rfl, hb, hc, lp, lo, q⟩ := h
    have hr1 := hr.mono (show 1 ≤ 2 by decide)
    refine ⟨_, pss_cons (ps_par (by rfl) scBent.nd (i := 3) (j := 4) rfl rfl (by decide) rfl rfl (pa_cons (pe_split (pv 1) pe_str) (pa_cons (pe_call GT hr1 (by rfl) gT kT bT .nil pass0 (pa_cons (pv 0) (pa_cons pe_int pa_nil))) pa_nil)) (by rfl))
      (pss_cons (ps_par (by rfl) scBent.nd (i := 5) (j := 6) rfl rfl (by decide) rfl rfl (pa_cons (pe_call GT hr1 (by rfl) gT kT bT .nil pass0 (pa_cons (pv 0) (pa_cons (pe_callB call_len_seq (by rfl) Z.len PySem.boot_len (pa_cons (pv 3) pa_nil)) pa_nil)))
          (pa_cons (pe_call GT hr1 (by rfl) gT kT bT .nil pass0 (pa_cons (pv 0) (pa_cons (pe_op op_add (pe_callB call_len_str (by rfl) Z.len PySem.boot_len (pa_cons (pv 1) pa_nil)) pe_int) pa_nil))) pa_nil)) (by rfl))
      (pss_cons (ps_if (pt_cmpR op_eq (pv 4) pe_int (nomark _))
        (pss_one (ps_ret (pe_op op_add_str (pe_op op_add_str (pe_slice sl_str (pv 1) po_none (po_some (pv 6))) (pe_call GO hr (by rfl) gO kO bO .nil pass0 (pa_cons (pv 0) (pa_cons
          (pe_op op_cat (pe_callTy (call_listS rfl) (by rfl) Z.list (by decide +kernel) (pa_cons pe_str pa_nil)) (pe_lst (pa_cons pe_str (pa_cons pe_str (pa_cons pe_str (pa_cons pe_str pa_nil)))))) pa_nil)))) (pe_slice sl_str (pv 1) (po_some (pv 6)) po_none)))) pss_nil)
      (pss_cons (ps_if (pt_cmpR op_eq (pv 4) pe_int (nomark _))
        (pss_one (ps_ret (pe_op op_add_str (pe_slice sl_str (pv 1) po_none (po_some (pv 6))) (pe_slice sl_str (pv 1) (po_some (pe_op op_add (pv 6) pe_int)) po_none)))) pss_nil)
      (pss_cons (ps_if (pt_cmpR op_eq (pv 4) pe_int (nomark _))
        (pss_one (ps_ret (pe_bm (T := "str") PySem.F.plainAttrs_str PySem.F.slot_str_join PySem.F.type_str_join mt_join pe_str (pa_cons (pe_op op_cat (pe_slice sl_list (pv 3) po_none (po_some (pv 5))) (pe_slice sl_list (pv 3) (po_some (pe_op op_add (pv 5) pe_int)) po_none)) pa_nil)))) pss_nil)
      (pss_cons (ps_if (pt_cmpR op_eq (pv 4) pe_int (nomark _))
        (pss_one (ps_ret (pe_bm (T := "str") PySem.F.plainAttrs_str PySem.F.slot_str_join PySem.F.type_str_join mt_join pe_str (pa_cons (pe_op op_cat (pe_slice sl_list (pv 3) po_none (po_some (pe_op op_add (pv 5) pe_int))) (pe_slice sl_list (pv 3) (po_some (pv 5)) po_none)) pa_nil)))) pss_nil)
      (pss_cons (ps_if (pt_cmpR op_eq (pv 4) pe_int (nomark _))
        (pss_one (ps_ret (pe_bm (T := "str") PySem.F.plainAttrs_str PySem.F.slot_str_join PySem.F.type_str_join mt_join pe_str (pa_cons (pe_op op_cat (pe_op op_cat (pe_slice sl_list (pv 3) po_none (po_some (pv 5)))
          (pe_revL (pe_slice sl_list (pv 3) (po_some (pv 5)) (po_some (pe_op op_add (pv 5) pe_int))))) (pe_slice sl_list (pv 3) (po_some (pe_op op_add (pv 5) pe_int)) po_none)) pa_nil)))) pss_nil)
      (pss_cons (ps_if (pt_cmpR op_eq (pv 4) pe_int (nomark _))
        (pss_cons (ps_set (i := 7) scBent.nd rfl (.inl rfl) (pe_lst (pa_cons pe_str (pa_cons pe_str (pa_cons pe_str (pa_cons pe_str (pa_cons pe_str (pa_cons pe_str (pa_cons pe_str (pa_cons pe_str (pa_cons pe_str (pa_cons pe_str (pa_cons pe_str (pa_cons pe_str (pa_cons pe_str (pa_cons pe_str (pa_cons pe_str (pa_cons pe_str pa_nil))))))))))))))))))
        (pss_one (ps_ret (pe_bm (T := "str") PySem.F.plainAttrs_str PySem.F.slot_str_join PySem.F.type_str_join mt_join pe_str (pa_cons (pe_op op_cat (pe_op op_cat (pe_slice sl_list (pv 3) po_none (po_some (pv 5)))
          (pe_lst (pa_cons (pe_call GO hr (by rfl) gO kO bO .nil pass0 (pa_cons (pv 0) (pa_cons (pv 7) pa_nil))) pa_nil))) (pe_slice sl_list (pv 3) (po_some (pe_op op_add (pv 5) pe_int)) po_none)) pa_nil))))) pss_nil)
      (pss_cons (ps_set (i := 8) scBent.nd rfl (.inl rfl) (pe_split (pv 2) pe_str))
      (pss_cons (ps_if (pt_cmpR op_eq (pv 4) pe_int (nomark _))
        (pss_one (ps_ret (pe_bm (T := "str") PySem.F.plainAttrs_str PySem.F.slot_str_join PySem.F.type_str_join mt_join pe_str (pa_cons (pe_op op_cat (pe_slice sl_list (pv 3) po_none (po_some (pv 5)))
          (pe_slice sl_list (pv 8) (po_some (pe_call GT hr1 (by rfl) gT kT bT .nil pass0 (pa_cons (pv 0) (pa_cons (pe_callB call_len_seq (by rfl) Z.len PySem.boot_len (pa_cons (pv 8) pa_nil)) pa_nil)))) po_none)) pa_nil)))) pss_nil)
      (pss_one (ps_ret (pe_op op_add_str (pv 1) (pe_call GO hr (by rfl) gO kO bO .nil pass0 (pa_cons (pv 0) (pa_cons (pe_lst (pa_cons pe_str (pa_cons pe_str (pa_cons pe_str pa_nil)))) pa_nil))))))))))))))), ?_⟩
    have lp' := cp_len p
    have lo' := cp_len o
    have line : 600000 ≤ sizeLine := by decide
    have mo : (1 : Int) ≤ 2 ^ 20 := by decide
    have nblank : (Str.ofString " ").length = 1 := by decide +kernel
    -- the words, the way
    refine ⟨_, rfl, ⟨_, rfl⟩, p, _, rfl, rfl, (by decide +kernel), by omega, fun L nL => ?_⟩
    have sL : Same H (upd H L (.lst ((Txt.split p " ").map V.str))) := same_upd nL
    have hL : upd H L (.lst ((Txt.split p " ").map V.str)) L = some (.lst ((Txt.split p " ").map V.str)) := upd_same
    have nb : b ≠ L := by
      rintro rfl
      obtain ⟨_, _, _, e, _⟩ := hb
      rw [e] at nL
      cases nL
    have box : ∀ {c : Int} {G G' : Hp}, Box c G b → Same G G' → Box c G' b := fun x s => by
      obtain ⟨o, m, k, e, r⟩ := x
      exact ⟨o, m, k, s _ _ e, r⟩
    have boxle : ∀ {c c' : Int} {G : Hp}, Box c G b → c ≤ c' → Box c' G b := fun x h => by
      obtain ⟨o, m, k, e, h1, h2, h3, h4⟩ := x
      exact ⟨o, m, k, e, h1, h2, h3, by omega⟩
    have k0 : Kept b H (upd H L (.lst ((Txt.split p " ").map V.str))) := fun x y e _ => sL _ _ e
    have b0 := box hb sL
    generalize hy : Txt.split p " " = ys at *
    have jy : joinL [32] (ys.map cp) = cp p := by rw [← hy]; exact words_of p
    have ny : ys.map cp ≠ [] := by rw [← hy]; exact words_ne p
    have y1 : 1 ≤ ys.length := by rw [← hy]; exact split_pos p " "
    have y2 : ys.length ≤ p.length + 2 := by rw [← hy]; exact split_le p " "
    clear hy
    generalize upd H L (.lst (ys.map V.str)) = H0 at sL hL k0 b0 ⊢
    refine ⟨_, rfl, b, 8, c, rfl, b0, by decide, by decide, by omega, fun H1 way k1 b1 w0 w1 => ⟨_, _, rfl, ?_⟩⟩
    have hL1 : H1 L = some (.lst (ys.map V.str)) := k1 _ _ hL (Ne.symm nb)
    refine ⟨_, rfl, .ref L, rfl, L, _, rfl, .inl (SqL.of hL1), b, _, c + 1, rfl, b1, by rw [List.length_map]; omega, by rw [List.length_map]; omega, by omega, fun H2 at_ k2 b2 a0 a1 => ?_⟩
    refine ⟨_, rfl, .str p, rfl, p, rfl, by omega, _, _, rfl, rfl, b, _, c + 1 + 1, rfl, b2, by omega, by omega, by omega, fun H3 sp k3 b3 s0 s1 => ⟨_, _, rfl, ?_⟩⟩
    have hL3 : H3 L = some (.lst (ys.map V.str)) := k3 _ _ (k2 _ _ hL1 (Ne.symm nb)) (Ne.symm nb)
    have kk : Kept b H H3 := ((k0.trans k1).trans k2).trans k3
    obtain ⟨a, rfl⟩ := Int.eq_ofNat_of_zero_le a0
    obtain ⟨k, rfl⟩ := Int.eq_ofNat_of_zero_le s0
    rw [List.length_map] at a1
    have ha : a ≤ ys.length := by omega
    have ha' : a + 1 ≤ ys.length := by omega
    have hk : k ≤ (cp p).length := by omega
    clear k0 k1 k2 k3 b0 b1 b2 hL hL1 sL s1 a1
    have b5 : Box (c + 5) H3 b := boxle b3 (by omega)
    -- the end of a join
    have size : ∀ zs : List Str, wl (zs.map cp) ≤ 600000 → (zs.map (·.length)).sum + zs.length * (Str.ofString " ").length ≤ 16777216 := fun zs h => by
      have e : (zs.map (·.length)).sum + zs.length = wl (zs.map cp) := by
        clear h
        induction zs with
        | nil => rfl
        | cons z r ih =>
          have := cp_len z
          simp only [wl, List.map_cons, List.sum_cons, List.length_cons] at ih ⊢
          omega
      rw [nblank]
      omega
    have cpj : ∀ zs : List Str, cp (Txt.join (Str.ofString " ") zs) = joinL [32] (zs.map cp) := fun zs => by rw [join_cp, cp_blank]
    have took : ∀ j : Nat, j ≤ ys.length → cutV (ys.map V.str) none (some (j : Int)) = (ys.take j).map V.str := fun j h => by rw [cut_to _ _ (by rw [List.length_map]; exact h), List.map_take]
    have drop : ∀ j : Nat, cutV (ys.map V.str) (some (j : Int)) none = (ys.drop j).map V.str := fun j => by rw [cut_from, List.map_drop]
    have small : ∀ (zs : List Str), zs.length ≤ 400000 → (zs.map V.str).length ≤ sizeLine := fun zs h => by rw [List.length_map]; omega
    have two : ∀ (zs us : List Str), zs.length ≤ 250005 → us.length ≤ 250005 → (zs.map V.str).length + (us.map V.str).length ≤ sizeLine := fun zs us h1 h2 => by rw [List.length_map, List.length_map]; omega
    have tl : ∀ j : Nat, (ys.take j).length ≤ 250005 := fun j => by rw [List.length_take]; omega
    have dl : ∀ j : Nat, (ys.drop j).length ≤ 250005 := fun j => by rw [List.length_drop]; omega
    have c1 := cutS_to p k hk
    have c2 := cutS_from p k
    have c3 : cp (cutS p (some ((k : Int) + 1)) none) = (cp p).drop (k + 1) := cutS_from p (k + 1)
    have cl1 : (cutS p none (some (k : Int))).length ≤ 250000 := by
      rw [← cp_len, c1, List.length_take]
      omega
    have cl2 : (cutS p (some (k : Int)) none).length ≤ 250000 := by
      rw [← cp_len, c2, List.length_drop]
      omega
    have cl3 : (cutS p (some ((k : Int) + 1)) none).length ≤ 250000 := by
      rw [← cp_len, c3, List.length_drop]
      omega
    have sK : ∀ {G G' : Hp}, Kept b H G → Same G G' → Kept b H G' := fun k s => k.trans fun x y e _ => s x y e
    have fin : ∀ (G : Hp) (zs : List Str), Kept b H G → Box (c + 5) G b → Bent (cp p) (cp o) (joinL [32] (zs.map cp)) → Q (.str (Txt.join (Str.ofString " ") zs)) G := fun G zs kp bx bt => q G _ kp bx (by rw [cpj]; exact bt)
    -- way 0
    refine ⟨.int way, rfl, rfl, _, rfl, ite2 (fun _ => ?_) (fun _ => ?_)⟩
    · refine ⟨_, rfl, _, rfl, (k : Int), rfl, p, rfl, by omega, _, rfl, signsW, rfl, by decide +kernel, fun l1 m1 => ⟨by show 4 ≤ _; decide, fun l2 m2 => ?_⟩⟩
      have s1 : Same H3 (upd H3 l1 (.lst (signsW.cps.toList.map fun c => V.str ⟨#[c]⟩))) := same_upd m1
      have g1 : upd H3 l1 (.lst (signsW.cps.toList.map fun c => V.str ⟨#[c]⟩)) l1 = some (.lst (((cp signsW).map fun c => (⟨#[c]⟩ : Str)).map V.str)) := by
        rw [upd_same, List.map_map]
        rfl
      generalize upd H3 l1 (.lst (signsW.cps.toList.map fun c => V.str ⟨#[c]⟩)) = G1 at s1 g1 m2 ⊢
      have s2 : Same G1 (upd G1 l2 (.lst (put4.map V.str))) := same_upd m2
      have g2 : upd G1 l2 (.lst (put4.map V.str)) l2 = some (.lst (put4.map V.str)) := upd_same
      show rCat _ (.ref l2) (upd G1 l2 (.lst (put4.map V.str))) _
      generalize upd G1 l2 (.lst (put4.map V.str)) = G2 at s2 g2 ⊢
      refine ⟨l1, l2, _, _, rfl, rfl, s2 _ _ g1, g2, by decide +kernel, fun l3 m3 => ?_⟩
      have s3 : Same G2 (upd G2 l3 (.lst (((cp signsW).map fun c => (⟨#[c]⟩ : Str)).map V.str ++ put4.map V.str))) := same_upd m3
      have g3 : upd G2 l3 (.lst (((cp signsW).map fun c => (⟨#[c]⟩ : Str)).map V.str ++ put4.map V.str)) l3 = some (.lst ((((cp signsW).map fun c => (⟨#[c]⟩ : Str)) ++ put4).map V.str)) := by
        rw [upd_same, List.map_append]
      have sx := s1.trans (s2.trans s3)
      generalize upd G2 l3 (.lst (((cp signsW).map fun c => (⟨#[c]⟩ : Str)).map V.str ++ put4.map V.str)) = G3 at sx g3 ⊢
      have n3 : l3 ≠ b := by
        rintro rfl
        obtain ⟨_, _, _, e, _⟩ := box b3 (s1.trans s2)
        rw [e] at m3
        cases m3
      refine ⟨b, l3, _, c + 1 + 1 + 1, rfl, box b3 sx, g3, n3, by decide +kernel, by decide +kernel, by omega, fun G v kp bx hv => ?_⟩
      obtain ⟨w, hw, rfl⟩ := List.mem_map.mp hv
      have wo : cp w ∈ oddAll := by
        unfold oddAll
        rcases List.mem_append.mp hw with h | h
        · obtain ⟨x, hx, rfl⟩ := List.mem_map.mp h
          exact List.mem_append_left _ (List.mem_map.mpr ⟨x, hx, rfl⟩)
        · exact List.mem_append_right _ (List.mem_map_of_mem (List.mem_append_left _ (List.mem_append_left _ h)))
      have wl_ := odd_len _ wo
      have lw := cp_len w
      have al : (cutS p none (some (k : Int)) ++ w).length = (cutS p none (some (k : Int))).length + w.length := by
        rw [← cp_len, cp_app, List.length_append, cp_len, cp_len]
      refine ⟨_, _, rfl, rfl, by omega, _, rfl, _, rfl, (k : Int), rfl, p, rfl, by omega, _, _, rfl, rfl, by rw [al]; omega, ?_⟩
      refine q G _ (kk.trans (Kept.trans (H' := G3) (fun x y e _ => sx x y e) kp)) (boxle bx (by omega)) ?_
      rw [cp_app, cp_app, c1, c2]
      exact bent_put wo
    -- way 1
    refine ⟨.int way, rfl, rfl, _, rfl, ite2 (fun _ => ?_) (fun _ => ?_)⟩
    · refine ⟨_, rfl, _, rfl, (k : Int), rfl, p, rfl, by omega, _, rfl, _, rfl, _, _, rfl, rfl, _, rfl, p, rfl, by omega, _, _, rfl, rfl, ?_, q H3 _ kk b5 ?_⟩
      · exact Nat.le_trans (Nat.add_le_add cl1 cl3) (by omega)
      · rw [cp_app, c1]
        show Bent _ _ (_ ++ cp (cutS p (some ((k : Int) + 1)) none))
        rw [c3]
        exact bent_out
    -- way 2
    refine ⟨.int way, rfl, rfl, _, rfl, ite2 (fun _ => ?_) (fun _ => ?_)⟩
    · refine ⟨rfl, _, rfl, _, rfl, (a : Int), rfl, L, _, rfl, SqL.of hL3, fun p1 n1 => ?_⟩
      rw [took a ha]
      have s1 : Same H3 (upd H3 p1 (.lst ((ys.take a).map V.str))) := same_upd n1
      have g1 : upd H3 p1 (.lst ((ys.take a).map V.str)) p1 = some (.lst ((ys.take a).map V.str)) := upd_same
      generalize upd H3 p1 (.lst ((ys.take a).map V.str)) = G1 at s1 g1 ⊢
      refine ⟨_, rfl, _, rfl, _, _, rfl, rfl, _, rfl, L, _, rfl, SqL.of (s1 _ _ hL3), fun p2 n2 => ?_⟩
      have ed : cutV (ys.map V.str) (some ((a : Int) + 1)) none = (ys.drop (a + 1)).map V.str := drop (a + 1)
      show rCat _ (.ref p2) (upd G1 p2 (.lst (cutV (ys.map V.str) (some ((a : Int) + 1)) none))) _
      rw [ed]
      have s2 : Same G1 (upd G1 p2 (.lst ((ys.drop (a + 1)).map V.str))) := same_upd n2
      have g2 : upd G1 p2 (.lst ((ys.drop (a + 1)).map V.str)) p2 = some (.lst ((ys.drop (a + 1)).map V.str)) := upd_same
      generalize upd G1 p2 (.lst ((ys.drop (a + 1)).map V.str)) = G2 at s2 g2 ⊢
      refine ⟨p1, p2, _, _, rfl, rfl, s2 _ _ g1, g2, two _ _ (tl _) (dl _), fun p3 n3 => ?_⟩
      rw [← List.map_append]
      have s3 : Same G2 (upd G2 p3 (.lst ((ys.take a ++ ys.drop (a + 1)).map V.str))) := same_upd n3
      have g3 : upd G2 p3 (.lst ((ys.take a ++ ys.drop (a + 1)).map V.str)) p3 = some (.lst ((ys.take a ++ ys.drop (a + 1)).map V.str)) := upd_same
      generalize upd G2 p3 (.lst ((ys.take a ++ ys.drop (a + 1)).map V.str)) = G3 at s3 g3 ⊢
      have sx := s1.trans (s2.trans s3)
      obtain ⟨bt, ln⟩ := bent_less (o := cp o) jy ny (k := a)
      rw [← List.map_take, ← List.map_drop, ← List.map_append] at bt ln
      exact ⟨_, p3, _, rfl, rfl, .inl (SqL.of g3), size _ (by omega), fin _ _ (sK kk sx) (box b5 sx) bt⟩
    -- way 3
    refine ⟨.int way, rfl, rfl, _, rfl, ite2 (fun _ => ?_) (fun _ => ?_)⟩
    · refine ⟨rfl, _, rfl, _, rfl, _, _, rfl, rfl, _, rfl, L, _, rfl, SqL.of hL3, fun p1 n1 => ?_⟩
      show tSl _ _ _ _ _ (upd H3 p1 (.lst (cutV (ys.map V.str) none (some ((a : Int) + 1))))) _
      rw [show cutV (ys.map V.str) none (some ((a : Int) + 1)) = (ys.take (a + 1)).map V.str from took (a + 1) ha']
      have s1 : Same H3 (upd H3 p1 (.lst ((ys.take (a + 1)).map V.str))) := same_upd n1
      have g1 : upd H3 p1 (.lst ((ys.take (a + 1)).map V.str)) p1 = some (.lst ((ys.take (a + 1)).map V.str)) := upd_same
      generalize upd H3 p1 (.lst ((ys.take (a + 1)).map V.str)) = G1 at s1 g1 ⊢
      refine ⟨_, rfl, _, rfl, _, rfl, L, _, rfl, SqL.of (s1 _ _ hL3), fun p2 n2 => ?_⟩
      show rCat _ (.ref p2) (upd G1 p2 (.lst (cutV (ys.map V.str) (some (a : Int)) none))) _
      rw [drop a]
      have s2 : Same G1 (upd G1 p2 (.lst ((ys.drop a).map V.str))) := same_upd n2
      have g2 : upd G1 p2 (.lst ((ys.drop a).map V.str)) p2 = some (.lst ((ys.drop a).map V.str)) := upd_same
      generalize upd G1 p2 (.lst ((ys.drop a).map V.str)) = G2 at s2 g2 ⊢
      refine ⟨p1, p2, _, _, rfl, rfl, s2 _ _ g1, g2, two _ _ (tl _) (dl _), fun p3 n3 => ?_⟩
      rw [← List.map_append]
      have s3 : Same G2 (upd G2 p3 (.lst ((ys.take (a + 1) ++ ys.drop a).map V.str))) := same_upd n3
      have g3 : upd G2 p3 (.lst ((ys.take (a + 1) ++ ys.drop a).map V.str)) p3 = some (.lst ((ys.take (a + 1) ++ ys.drop a).map V.str)) := upd_same
      generalize upd G2 p3 (.lst ((ys.take (a + 1) ++ ys.drop a).map V.str)) = G3 at s3 g3 ⊢
      have sx := s1.trans (s2.trans s3)
      obtain ⟨bt, ln⟩ := bent_twice (o := cp o) jy ny (k := a)
      rw [← List.map_take, ← List.map_drop, ← List.map_append] at bt ln
      exact ⟨_, p3, _, rfl, rfl, .inl (SqL.of g3), size _ (by omega), fin _ _ (sK kk sx) (box b5 sx) bt⟩
    -- way 4
    refine ⟨.int way, rfl, rfl, _, rfl, ite2 (fun _ => ?_) (fun _ => ?_)⟩
    · refine ⟨rfl, _, rfl, _, rfl, (a : Int), rfl, L, _, rfl, SqL.of hL3, fun p1 n1 => ?_⟩
      rw [took a ha]
      have s1 : Same H3 (upd H3 p1 (.lst ((ys.take a).map V.str))) := same_upd n1
      have g1 : upd H3 p1 (.lst ((ys.take a).map V.str)) p1 = some (.lst ((ys.take a).map V.str)) := upd_same
      generalize upd H3 p1 (.lst ((ys.take a).map V.str)) = G1 at s1 g1 ⊢
      refine ⟨_, rfl, _, rfl, (a : Int), rfl, _, rfl, _, _, rfl, rfl, _, rfl, L, _, rfl, SqL.of (s1 _ _ hL3), fun p2 n2 => ?_⟩
      have em : cutV (ys.map V.str) (some (a : Int)) (some ((a : Int) + 2)) = ((ys.drop a).take 2).map V.str := (cut_two2 (ys.map V.str) a).trans (by rw [List.map_take, List.map_drop])
      rw [em]
      have s2 : Same G1 (upd G1 p2 (.lst (((ys.drop a).take 2).map V.str))) := same_upd n2
      have g2 : upd G1 p2 (.lst (((ys.drop a).take 2).map V.str)) p2 = some (.lst (((ys.drop a).take 2).map V.str)) := upd_same
      generalize upd G1 p2 (.lst (((ys.drop a).take 2).map V.str)) = G2 at s2 g2 ⊢
      refine ⟨p2, _, rfl, SqL.of g2, fun p3 n3 => ?_⟩
      rw [← List.map_reverse]
      have s3 : Same G2 (upd G2 p3 (.lst (((ys.drop a).take 2).reverse.map V.str))) := same_upd n3
      have g3 : upd G2 p3 (.lst (((ys.drop a).take 2).reverse.map V.str)) p3 = some (.lst (((ys.drop a).take 2).reverse.map V.str)) := upd_same
      show rCat _ (.ref p3) (upd G2 p3 (.lst (((ys.drop a).take 2).reverse.map V.str))) _
      generalize upd G2 p3 (.lst (((ys.drop a).take 2).reverse.map V.str)) = G3 at s3 g3 ⊢
      have rl : ((ys.drop a).take 2).reverse.length ≤ 250005 := by rw [List.length_reverse, List.length_take]; omega
      refine ⟨p1, p3, _, _, rfl, rfl, s3 _ _ (s2 _ _ g1), g3, two _ _ (tl _) rl, fun p4 n4 => ?_⟩
      rw [← List.map_append]
      have s4 : Same G3 (upd G3 p4 (.lst ((ys.take a ++ ((ys.drop a).take 2).reverse).map V.str))) := same_upd n4
      have g4 : upd G3 p4 (.lst ((ys.take a ++ ((ys.drop a).take 2).reverse).map V.str)) p4 = some (.lst ((ys.take a ++ ((ys.drop a).take 2).reverse).map V.str)) := upd_same
      generalize upd G3 p4 (.lst ((ys.take a ++ ((ys.drop a).take 2).reverse).map V.str)) = G4 at s4 g4 ⊢
      have sy := s1.trans (s2.trans (s3.trans s4))
      refine ⟨_, rfl, _, rfl, _, _, rfl, rfl, _, rfl, L, _, rfl, SqL.of (sy _ _ hL3), fun p5 n5 => ?_⟩
      have ed : cutV (ys.map V.str) (some ((a : Int) + 2)) none = (ys.drop (a + 2)).map V.str := drop (a + 2)
      show rCat _ (.ref p5) (upd G4 p5 (.lst (cutV (ys.map V.str) (some ((a : Int) + 2)) none))) _
      rw [ed]
      have s5 : Same G4 (upd G4 p5 (.lst ((ys.drop (a + 2)).map V.str))) := same_upd n5
      have g5 : upd G4 p5 (.lst ((ys.drop (a + 2)).map V.str)) p5 = some (.lst ((ys.drop (a + 2)).map V.str)) := upd_same
      generalize upd G4 p5 (.lst ((ys.drop (a + 2)).map V.str)) = G5 at s5 g5 ⊢
      have tr : (ys.take a ++ ((ys.drop a).take 2).reverse).length ≤ 250005 := by
        rw [List.length_append, List.length_reverse, List.length_take, List.length_take]
        omega
      refine ⟨p4, p5, _, _, rfl, rfl, s5 _ _ g4, g5, two _ _ tr (dl _), fun p6 n6 => ?_⟩
      rw [← List.map_append]
      have s6 : Same G5 (upd G5 p6 (.lst ((ys.take a ++ ((ys.drop a).take 2).reverse ++ ys.drop (a + 2)).map V.str))) := same_upd n6
      have g6 : upd G5 p6 (.lst ((ys.take a ++ ((ys.drop a).take 2).reverse ++ ys.drop (a + 2)).map V.str)) p6 = some (.lst ((ys.take a ++ ((ys.drop a).take 2).reverse ++ ys.drop (a + 2)).map V.str)) := upd_same
      generalize upd G5 p6 (.lst ((ys.take a ++ ((ys.drop a).take 2).reverse ++ ys.drop (a + 2)).map V.str)) = G6 at s6 g6 ⊢
      have sx := sy.trans (s5.trans s6)
      obtain ⟨bt, ln⟩ := bent_turn (o := cp o) jy ny (k := a)
      rw [← List.map_take, ← List.map_drop, ← List.map_drop, ← List.map_take, ← List.map_reverse, ← List.map_append, ← List.map_append] at bt ln
      exact ⟨_, p6, _, rfl, rfl, .inl (SqL.of g6), size _ (by omega), fin _ _ (sK kk sx) (box b5 sx) bt⟩
    -- way 5
    refine ⟨.int way, rfl, rfl, _, rfl, ite2 (fun _ => ?_) (fun _ => ?_)⟩
    · refine ⟨by decide, fun q0 m0 => ?_⟩
      have s0 : Same H3 (upd H3 q0 (.lst (oddL.map V.str))) := same_upd m0
      have g0 : upd H3 q0 (.lst (oddL.map V.str)) q0 = some (.lst (oddL.map V.str)) := upd_same
      show gName 7 (.ref q0) _ (upd H3 q0 (.lst (oddL.map V.str))) _
      generalize upd H3 q0 (.lst (oddL.map V.str)) = G0 at s0 g0 ⊢
      refine ⟨rfl, _, rfl, _, rfl, (a : Int), rfl, L, _, rfl, SqL.of (s0 _ _ hL3), fun p1 n1 => ?_⟩
      rw [took a ha]
      have s1 : Same G0 (upd G0 p1 (.lst ((ys.take a).map V.str))) := same_upd n1
      have g1 : upd G0 p1 (.lst ((ys.take a).map V.str)) p1 = some (.lst ((ys.take a).map V.str)) := upd_same
      generalize upd G0 p1 (.lst ((ys.take a).map V.str)) = G1 at s1 g1 ⊢
      have s01 := s0.trans s1
      have nq : q0 ≠ b := by
        rintro rfl
        obtain ⟨_, _, _, e, _⟩ := b3
        rw [e] at m0
        cases m0
      refine ⟨_, rfl, _, rfl, b, q0, _, c + 1 + 1 + 1, rfl, box b3 s01, s1 _ _ g0, nq, by decide +kernel, by decide +kernel, by omega, fun G2 v kp bx hv => ?_⟩
      obtain ⟨w, hw, rfl⟩ := List.mem_map.mp hv
      have wo : cp w ∈ oddAll := List.mem_append_right _ (List.mem_map_of_mem (List.mem_append_left _ (List.mem_append_right _ hw)))
      have g12 : G2 p1 = some (.lst ((ys.take a).map V.str)) := kp _ _ g1 (by
        rintro rfl
        obtain ⟨_, _, _, e, _⟩ := box b3 s0
        rw [e] at n1
        cases n1)
      have kG : Kept b H G2 := (sK kk s01).trans kp
      have lG : G2 L = some (.lst (ys.map V.str)) := kp _ _ (s01 _ _ hL3) (Ne.symm nb)
      have b6 : Box (c + 5) G2 b := boxle bx (by omega)
      refine ⟨show 1 ≤ _ by decide, fun p2 n2 => ?_⟩
      have s2 : Same G2 (upd G2 p2 (.lst ([w].map V.str))) := same_upd n2
      have g2 : upd G2 p2 (.lst ([w].map V.str)) p2 = some (.lst ([w].map V.str)) := upd_same
      show rCat _ (.ref p2) (upd G2 p2 (.lst ([w].map V.str))) _
      generalize upd G2 p2 (.lst ([w].map V.str)) = G3 at s2 g2 ⊢
      refine ⟨p1, p2, _, _, rfl, rfl, s2 _ _ g12, g2, two _ [w] (tl _) (show 1 ≤ _ by decide), fun p3 n3 => ?_⟩
      rw [← List.map_append]
      have s3 : Same G3 (upd G3 p3 (.lst ((ys.take a ++ [w]).map V.str))) := same_upd n3
      have g3 : upd G3 p3 (.lst ((ys.take a ++ [w]).map V.str)) p3 = some (.lst ((ys.take a ++ [w]).map V.str)) := upd_same
      generalize upd G3 p3 (.lst ((ys.take a ++ [w]).map V.str)) = G4 at s3 g3 ⊢
      have sy := s2.trans s3
      refine ⟨_, rfl, _, rfl, _, _, rfl, rfl, _, rfl, L, _, rfl, SqL.of (sy _ _ lG), fun p4 n4 => ?_⟩
      have ed : cutV (ys.map V.str) (some ((a : Int) + 1)) none = (ys.drop (a + 1)).map V.str := drop (a + 1)
      show rCat _ (.ref p4) (upd G4 p4 (.lst (cutV (ys.map V.str) (some ((a : Int) + 1)) none))) _
      rw [ed]
      have s4 : Same G4 (upd G4 p4 (.lst ((ys.drop (a + 1)).map V.str))) := same_upd n4
      have g4 : upd G4 p4 (.lst ((ys.drop (a + 1)).map V.str)) p4 = some (.lst ((ys.drop (a + 1)).map V.str)) := upd_same
      generalize upd G4 p4 (.lst ((ys.drop (a + 1)).map V.str)) = G5 at s4 g4 ⊢
      have tr : (ys.take a ++ [w]).length ≤ 250005 := by
        rw [List.length_append, List.length_take, List.length_singleton]
        omega
      refine ⟨p3, p4, _, _, rfl, rfl, s4 _ _ g3, g4, two _ _ tr (dl _), fun p5 n5 => ?_⟩
      rw [← List.map_append]
      have s5 : Same G5 (upd G5 p5 (.lst ((ys.take a ++ [w] ++ ys.drop (a + 1)).map V.str))) := same_upd n5
      have g5 : upd G5 p5 (.lst ((ys.take a ++ [w] ++ ys.drop (a + 1)).map V.str)) p5 = some (.lst ((ys.take a ++ [w] ++ ys.drop (a + 1)).map V.str)) := upd_same
      generalize upd G5 p5 (.lst ((ys.take a ++ [w] ++ ys.drop (a + 1)).map V.str)) = G6 at s5 g5 ⊢
      have sx := sy.trans (s4.trans s5)
      obtain ⟨bt, ln⟩ := bent_word (o := cp o) jy ny (k := a) wo
      rw [← List.map_take, ← List.map_drop, show [cp w] = [w].map cp from rfl, ← List.map_append, ← List.map_append] at bt ln
      exact ⟨_, p5, _, rfl, rfl, .inl (SqL.of g5), size _ (by omega), fin _ _ (sK kG sx) (box b6 sx) bt⟩
    -- way 6
    refine ⟨_, rfl, ⟨_, rfl⟩, o, _, rfl, rfl, (by decide +kernel), by omega, fun M nM => ?_⟩
    have sM : Same H3 (upd H3 M (.lst ((Txt.split o " ").map V.str))) := same_upd nM
    have hM : upd H3 M (.lst ((Txt.split o " ").map V.str)) M = some (.lst ((Txt.split o " ").map V.str)) := upd_same
    have nbM : b ≠ M := by
      rintro rfl
      obtain ⟨_, _, _, e, _⟩ := b3
      rw [e] at nM
      cases nM
    show tSeq _ _ _ _ (upd H3 M (.lst ((Txt.split o " ").map V.str)))
    generalize hm : Txt.split o " " = ms at *
    have jm : joinL [32] (ms.map cp) = cp o := by rw [← hm]; exact words_of o
    have nm : ms.map cp ≠ [] := by rw [← hm]; exact words_ne o
    have m1 : 1 ≤ ms.length := by rw [← hm]; exact split_pos o " "
    have m2 : ms.length ≤ o.length + 2 := by rw [← hm]; exact split_le o " "
    clear hm
    generalize upd H3 M (.lst (ms.map V.str)) = H4 at sM hM ⊢
    refine ⟨.int way, rfl, rfl, _, rfl, ite2 (fun _ => ?_) (fun _ => ?_)⟩
    · refine ⟨rfl, _, rfl, _, rfl, (a : Int), rfl, L, _, rfl, SqL.of (sM _ _ hL3), fun p1 n1 => ?_⟩
      rw [took a ha]
      have s1 : Same H4 (upd H4 p1 (.lst ((ys.take a).map V.str))) := same_upd n1
      have g1 : upd H4 p1 (.lst ((ys.take a).map V.str)) p1 = some (.lst ((ys.take a).map V.str)) := upd_same
      generalize upd H4 p1 (.lst ((ys.take a).map V.str)) = G1 at s1 g1 ⊢
      have s41 := sM.trans s1
      have n1b : p1 ≠ b := by
        rintro rfl
        obtain ⟨_, _, _, e, _⟩ := box b3 sM
        rw [e] at n1
        cases n1
      refine ⟨_, rfl, _, rfl, .ref M, rfl, M, _, rfl, .inl (SqL.of (s1 _ _ hM)), b, _, c + 1 + 1 + 1, rfl, box b3 s41, by rw [List.length_map]; omega, by rw [List.length_map]; omega, by omega, fun G2 j kp bx j0 j1 => ?_⟩
      have hM2 : G2 M = some (.lst (ms.map V.str)) := kp _ _ (s1 _ _ hM) (Ne.symm nbM)
      have g12 : G2 p1 = some (.lst ((ys.take a).map V.str)) := kp _ _ g1 n1b
      have kG : Kept b H G2 := (sK kk s41).trans kp
      have b6 : Box (c + 5) G2 b := boxle bx (by omega)
      obtain ⟨i, rfl⟩ := Int.eq_ofNat_of_zero_le j0
      refine ⟨_, rfl, M, _, rfl, SqL.of hM2, fun p2 n2 => ?_⟩
      have ed : cutV (ms.map V.str) (some (i : Int)) none = (ms.drop i).map V.str := by rw [cut_from, List.map_drop]
      show rCat _ (.ref p2) (upd G2 p2 (.lst (cutV (ms.map V.str) (some (i : Int)) none))) _
      rw [ed]
      have s2 : Same G2 (upd G2 p2 (.lst ((ms.drop i).map V.str))) := same_upd n2
      have g2 : upd G2 p2 (.lst ((ms.drop i).map V.str)) p2 = some (.lst ((ms.drop i).map V.str)) := upd_same
      generalize upd G2 p2 (.lst ((ms.drop i).map V.str)) = G3 at s2 g2 ⊢
      refine ⟨p1, p2, _, _, rfl, rfl, s2 _ _ g12, g2, two _ _ (tl _) (by rw [List.length_drop]; omega), fun p3 n3 => ?_⟩
      rw [← List.map_append]
      have s3 : Same G3 (upd G3 p3 (.lst ((ys.take a ++ ms.drop i).map V.str))) := same_upd n3
      have g3 : upd G3 p3 (.lst ((ys.take a ++ ms.drop i).map V.str)) p3 = some (.lst ((ys.take a ++ ms.drop i).map V.str)) := upd_same
      generalize upd G3 p3 (.lst ((ys.take a ++ ms.drop i).map V.str)) = G4 at s3 g3 ⊢
      have sx := s2.trans s3
      obtain ⟨bt, ln⟩ := bent_mates jy jm ny nm (k := a) (j := i)
      rw [← List.map_take, ← List.map_drop, ← List.map_append] at bt ln
      exact ⟨_, p3, _, rfl, rfl, .inl (SqL.of g3), size _ (by omega), fin _ _ (sK kG sx) (box b6 sx) bt⟩
    refine ⟨_, rfl, _, rfl, by decide, fun l1 m1 => ?_⟩
    have s1 : Same H4 (upd H4 l1 (.lst (endL.map V.str))) := same_upd m1
    have g1 : upd H4 l1 (.lst (endL.map V.str)) l1 = some (.lst (endL.map V.str)) := upd_same
    have s41 := sM.trans s1
    have n1 : l1 ≠ b := by
      rintro rfl
      obtain ⟨_, _, _, e, _⟩ := box b3 sM
      rw [e] at m1
      cases m1
    refine ⟨b, l1, _, c + 1 + 1 + 1, rfl, box b3 s41, g1, n1, by decide +kernel, by decide +kernel, by omega, fun G v kp bx hv => ?_⟩
    obtain ⟨w, hw, rfl⟩ := List.mem_map.mp hv
    have wo : cp w ∈ oddAll := List.mem_append_right _ (List.mem_map_of_mem (List.mem_append_right _ hw))
    have wl_ := odd_len _ wo
    have lw := cp_len w
    refine ⟨_, _, rfl, rfl, by omega, q G _ ((sK kk s41).trans kp) (boxle bx (by omega)) ?_⟩
    rw [cp_app]
    exact bent_end wo
end
end K9

set_option maxHeartbeats 400000
/-! What is drawn: its forms, how long its text is. -/
namespace K9
open PySem PySem.Spec PyProof.Rows L2 K2

/-! ### tame texts: no deed begins in them, their numbers are short -/
structure Tame (l : List Nat) : Prop where
  calm : ∀ b, cnt 0 (l ++ b) = cnt 0 b
  dig : run 0 l ≤ 9
  sm : Small l
theorem run_sep {c : Nat} (hc : isDig c = false) (b : List Nat) : ∀ (a : List Nat) (k : Nat), run k (a ++ c :: b) = max (run k a) (run 0 b)
  | [], k => by
    rw [List.nil_append, run, run, if_neg (by rw [hc]; exact Bool.false_ne_true)]
  | x :: a, k => by
    rw [List.cons_append, run, run, run_sep hc b a, run_sep hc b a]
    split
    · rfl
    · omega
theorem run_cons {c : Nat} (hc : isDig c = false) (b : List Nat) : run 0 (c :: b) = run 0 b := by
  rw [run, if_neg (by rw [hc]; exact Bool.false_ne_true)]
  omega
theorem run_len : ∀ (l : List Nat) (k : Nat), run k l ≤ k + l.length
  | [], k => Nat.le_refl _
  | a :: r, k => by
    have h1 := run_len r (k + 1)
    have h2 := run_len r 0
    rw [run, List.length_cons]
    split
    · omega
    · omega
theorem calm_no : ∀ {l : List Nat}, (∀ c ∈ l, c ≠ 59) → ∀ b, cnt 0 (l ++ b) = cnt 0 b
  | [], _, b => rfl
  | a :: r, h, b => by
    rw [List.cons_append, cnt, if_neg (h a List.mem_cons_self), if_neg (by omega), if_neg (by omega)]
    exact calm_no (fun c hc => h c (List.mem_cons_of_mem _ hc)) b
theorem Tame.nil : Tame [] := ⟨fun _ => rfl, Nat.zero_le _, fun c hc => (List.not_mem_nil hc).elim⟩
theorem two_of {l : List Nat} (h : l.all (fun c => decide (c ≠ 59) && decide (c < 128)) = true) {c : Nat} (hc : c ∈ l) : c ≠ 59 ∧ c < 128 := by
  have := List.all_eq_true.mp h c hc
  rw [Bool.and_eq_true, decide_eq_true_eq, decide_eq_true_eq] at this
  exact this
theorem Tame.of {l : List Nat} (h : l.all (fun c => decide (c ≠ 59) && decide (c < 128)) = true) (d : run 0 l ≤ 9) : Tame l := ⟨calm_no fun c hc => (two_of h hc).1, d, fun c hc => (two_of h hc).2⟩
theorem Tame.app {a b : List Nat} {c : Nat} (x : Tame a) (y : Tame (c :: b)) (hc : isDig c = false) : Tame (a ++ c :: b) := by
  refine ⟨fun r => ?_, ?_, fun z hz => ?_⟩
  · rw [List.append_assoc, x.calm, y.calm]
  · have := y.dig
    rw [run_cons hc] at this
    have := x.dig
    rw [run_sep hc]
    omega
  · rcases List.mem_append.mp hz with hz | hz
    · exact x.sm z hz
    · exact y.sm z hz
theorem Tame.cons {b : List Nat} {c : Nat} (y : Tame b) (hc : isDig c = false) (nn : (decide (c ≠ 59) && decide (c < 128)) = true) : Tame (c :: b) := by
  rw [Bool.and_eq_true, decide_eq_true_eq, decide_eq_true_eq] at nn
  obtain ⟨n, n2⟩ := nn
  refine ⟨fun r => ?_, ?_, fun z hz => ?_⟩
  · rw [List.cons_append, cnt, if_neg n, if_neg (by omega), if_neg (by omega)]
    exact y.calm r
  · rw [run_cons hc]
    exact y.dig
  · rcases List.mem_cons.mp hz with rfl | hz
    · exact n2
    · exact y.sm z hz
theorem Tame.none {a : List Nat} (x : Tame a) : cnt 0 a = 0 := by
  have := x.calm []
  rw [List.append_nil] at this
  exact this
/-- texts behind one another, each begun by c -/
theorem tame_flat {c : Nat} (hc : isDig c = false) (n : (decide (c ≠ 59) && decide (c < 128)) = true) {α : Type} {f : α → List Nat} {ds : List α} (h : ∀ d ∈ ds, ∃ l, f d = c :: l ∧ Tame l) {g : List α → List Nat} (g0 : g [] = []) (gc : ∀ d r, g (d :: r) = f d ++ g r) {e : Nat} {t : List Nat} (he : isDig e = false) (te : Tame (e :: t)) : Tame (g ds ++ e :: t) := by
  induction ds with
  | nil =>
    rw [g0]
    exact te
  | cons d r ih =>
    have ih := ih fun x hx => h x (List.mem_cons_of_mem _ hx)
    obtain ⟨l, e1, tl⟩ := h d List.mem_cons_self
    rw [gc, e1, List.append_assoc, List.cons_append]
    cases r with
    | nil =>
      rw [g0] at ih ⊢
      exact (tl.app te he).cons hc n
    | cons d' r' =>
      obtain ⟨l', e2, _⟩ := h d' (List.mem_cons_of_mem _ List.mem_cons_self)
      rw [gc, e2, List.append_assoc, List.cons_append] at ih ⊢
      exact (tl.app ih hc).cons hc n
/-- texts with `; ` ahead of each -/
def pm : List (List Nat) → List Nat
  | [] => []
  | t :: r => 59 :: 32 :: (t ++ pm r)
theorem pm_fine : ∀ {ts : List (List Nat)}, (∀ t ∈ ts, Tame t) → cnt 0 (pm ts) ≤ ts.length ∧ run 0 (pm ts) ≤ 9
  | [], _ => ⟨Nat.le_refl _, Nat.zero_le _⟩
  | t :: r, h => by
    obtain ⟨h1, h2⟩ := pm_fine (ts := r) fun x hx => h x (List.mem_cons_of_mem _ hx)
    have ht := h t List.mem_cons_self
    have c1 := ht.calm (pm r)
    have c2 : cnt 0 (pm (t :: r)) ≤ cnt 0 (t ++ pm r) + 1 := by
      show cnt 0 (59 :: 32 :: (t ++ pm r)) ≤ _
      rw [cnt, if_pos rfl, cnt, if_neg (by decide), if_pos ⟨rfl, rfl⟩]
      exact cnt_most 2 _
    refine ⟨by rw [List.length_cons]; omega, ?_⟩
    show run 0 (59 :: 32 :: (t ++ pm r)) ≤ 9
    rw [run_cons (by decide), run_cons (by decide)]
    cases r with
    | nil =>
      rw [pm, List.append_nil]
      exact ht.dig
    | cons t' r' =>
      rw [pm] at h2 ⊢
      rw [run_cons (by decide)] at h2
      rw [run_sep (by decide)]
      have := ht.dig
      omega
theorem page_fine {t : List Nat} {ts : List (List Nat)} (ht : Tame t) (h : ∀ t ∈ ts, Tame t) : cnt 0 (t ++ pm ts) ≤ ts.length ∧ run 0 (t ++ pm ts) ≤ 9 := by
  obtain ⟨h1, h2⟩ := pm_fine h
  refine ⟨by rw [ht.calm]; exact h1, ?_⟩
  cases ts with
  | nil =>
    rw [pm, List.append_nil]
    exact ht.dig
  | cons t' r =>
    rw [pm] at h2 ⊢
    rw [run_cons (by decide)] at h2
    rw [run_sep (by decide)]
    have := ht.dig
    omega
theorem pm_small : ∀ {ts : List (List Nat)}, (∀ t ∈ ts, Tame t) → Small (pm ts)
  | [], _ => fun c hc => (List.not_mem_nil hc).elim
  | t :: r, h => fun c hc => by
    rw [pm] at hc
    rcases List.mem_cons.mp hc with rfl | hc
    · decide
    · rcases List.mem_cons.mp hc with rfl | hc
      · decide
      · rcases List.mem_append.mp hc with hc | hc
        · exact (h t List.mem_cons_self).sm c hc
        · exact pm_small (ts := r) (fun x hx => h x (List.mem_cons_of_mem _ hx)) c hc
theorem page_small {t : List Nat} {ts : List (List Nat)} (ht : Tame t) (h : ∀ t ∈ ts, Tame t) : Small (t ++ pm ts) := fun c hc => by
  rcases List.mem_append.mp hc with hc | hc
  · exact ht.sm c hc
  · exact pm_small h c hc
theorem pEMore_pm : ∀ ds : List D, pEMore ds = pm (ds.map pStep)
  | [] => rfl
  | d :: r => by rw [pEMore, pEMore_pm r]; rfl
theorem pPMore_pm : ∀ ds : List D, pPMore ds = pm (ds.map pDeed)
  | [] => rfl
  | d :: r => by rw [pPMore, pPMore_pm r]; rfl
theorem pm_len {M : Nat} : ∀ {ts : List (List Nat)}, (∀ t ∈ ts, t.length ≤ M) → (pm ts).length ≤ ts.length * (M + 2)
  | [], _ => Nat.zero_le _
  | t :: r, h => by
    have h1 := pm_len (ts := r) fun x hx => h x (List.mem_cons_of_mem _ hx)
    have h2 := h t List.mem_cons_self
    rw [pm, List.length_cons, List.length_cons, List.length_append, List.length_cons, Nat.succ_mul]
    omega
/-! ### numbers -/
theorem digits_len : ∀ (k n : Nat), n < 10 ^ (k + 1) → (pN n).length ≤ k + 1 := by
  intro k
  induction k with
  | zero =>
    intro n h
    have : ∀ n < 10, (pN n).length ≤ 1 := by decide
    exact this n h
  | succ k ih =>
    intro n h
    by_cases hn : n < 10
    · have : ∀ n < 10, (pN n).length ≤ 1 := by decide
      have := this n hn
      omega
    · have := ih (n / 10) (by
        rw [Nat.pow_succ] at h
        omega)
      have e : pN n = pN (n / 10) ++ [(Nat.digitChar (n % 10)).toNat] := by
        unfold pN
        rw [Nat.toDigits_of_base_le (by decide) (by omega), List.map_append]
        rfl
      rw [e, List.length_append, List.length_singleton]
      omega
theorem tame_N {n : Nat} (h : n < 10 ^ 9) : Tame (pN n) ∧ (pN n).length ≤ 9 := by
  have l := digits_len 8 n h
  refine ⟨⟨calm_no fun c hc => ?_, Nat.le_trans (run_len _ _) (by omega), fun c hc => ?_⟩, l⟩
  · rintro rfl
    have := pN_isDig n 59 hc
    exact absurd this (by decide)
  · have := pN_isDig n c hc
    unfold isDig at this
    simp only [Bool.and_eq_true, decide_eq_true_eq] at this
    omega
theorem tame_I {i : Int} (h : i.natAbs < 10 ^ 9) : Tame (pI i) ∧ (pI i).length ≤ 10 := by
  obtain ⟨h1, h2⟩ := tame_N h
  unfold pI
  split
  · exact ⟨h1.cons (by decide) (by decide), by rw [List.length_cons]; omega⟩
  · exact ⟨h1, by omega⟩
/-! ### what is drawn -/
def nameS : List Str := ["a", "b", "main", "goods", "abcdefghijkl", "z", "number", "text", "lists", "q"]
theorem nameS_fine : ∀ y ∈ nameS, nameOk (cp y) = true ∧ (cp y).all isLet = true ∧ (cp y).length ≤ 12 ∧ run 0 (cp y) ≤ 9 ∧ (cp y).all (fun c => decide (c ≠ 59) && decide (c < 128)) = true := by decide +kernel
def litS : List Str := ["", "x", "a; b", "{ }", "[ #1 ]", " | ", "-", "#", "  ", "-0", "~!/.:", ⟨⟨List.replicate 60 120⟩⟩]
theorem litS_fine : ∀ y ∈ litS, strOk (cp y) = true ∧ (cp y).length ≤ 60 ∧ run 0 (cp y) ≤ 9 ∧ ((cp y).all (fun c => decide (c ≠ 59) && decide (c < 128)) = true ∨ y = Str.ofString "a; b") := by decide +kernel
def NameD (s : List Nat) : Prop := ∃ y ∈ nameS, s = cp y
theorem NameD.tame {s : List Nat} (h : NameD s) : nameOk s = true ∧ Small s ∧ Tame s ∧ s.length ≤ 12 := by
  obtain ⟨y, hy, rfl⟩ := h
  obtain ⟨h1, h2, h3, h4, h5⟩ := nameS_fine y hy
  exact ⟨h1, name_small h1, Tame.of h5 h4, h3⟩
def LitD (v : D) : Prop := (∃ i : Int, v = .int i ∧ i.natAbs < 10 ^ 9) ∨ ∃ y ∈ litS, v = .str (cp y)
theorem LitD.fine {v : D} (h : LitD v) : LitOk v ∧ Atom v ∧ intsOk v = true ∧ Tame (pLit v) ∧ (pLit v).length ≤ 62 ∧ pWorth v = pLit v := by
  rcases h with ⟨i, rfl, hi⟩ | ⟨y, hy, rfl⟩
  · obtain ⟨h1, h2⟩ := tame_I hi
    refine ⟨trivial, trivial, ?_, h1, Nat.le_trans h2 (by decide), by rw [pWorth]; rfl⟩
    rw [intsOk]
    exact decide_eq_true (by omega)
  · obtain ⟨h1, h2, h3, h4⟩ := litS_fine y hy
    refine ⟨h1, trivial, rfl, ?_, ?_, by rw [pWorth]; rfl⟩
    · show Tame (34 :: (cp y ++ [34]))
      refine Tame.cons (Tame.app ?_ (Tame.of (by decide) (by decide)) (by decide)) (by decide) (by decide)
      rcases h4 with h4 | rfl
      · exact Tame.of h4 h3
      · exact ⟨fun b => rfl, h3, lit_small (s := cp (Str.ofString "a; b")) h1⟩
    · show (34 :: (cp y ++ [34])).length ≤ 62
      rw [List.length_cons, List.length_append, List.length_singleton]
      omega
def WD (P : List D → Prop) (v : D) : Prop := LitD v ∨ (∃ es, v = .tup es ∧ P es) ∨ ∃ es, v = .tup es ∧ es.length ≤ 2 ∧ ∀ d ∈ es, ∃ (i : Nat) (fs : List D), d = .tup [.int i, .tup fs] ∧ i < 30 ∧ P fs
def RecD : Nat → List D → Prop
  | 0, _ => False
  | n + 1, ds => ds.length ≤ 3 ∧ ∀ d ∈ ds, ∃ s v, d = .tup [.str s, v] ∧ NameD s ∧ WD (RecD n) v
theorem RecD.ok : ∀ {n m : Nat} {ds : List D}, RecD n ds → n ≤ m → RecOk m ds
  | 0, _, _, h, _ => h.elim
  | n + 1, 0, _, _, h => by omega
  | n + 1, m + 1, ds, h, le => fun d hd => by
    obtain ⟨s, v, rfl, hs, hv⟩ := h.2 d hd
    refine ⟨s, v, rfl, hs.tame.1, ?_⟩
    have le : n ≤ m := by omega
    rcases hv with hv | ⟨es, rfl, he⟩ | ⟨es, rfl, _, he⟩
    · exact .inl hv.fine.1
    · by_cases e : es = []
      · subst e
        exact .inr (.inr ⟨[], rfl, fun d hd => (List.not_mem_nil hd).elim⟩)
      · exact .inr (.inl ⟨es, rfl, e, he.ok le⟩)
    · exact .inr (.inr ⟨es, rfl, fun d hd => by
        obtain ⟨i, fs, rfl, _, hf⟩ := he d hd
        exact ⟨i, fs, rfl, hf.ok le⟩⟩)
theorem intsOks_of : ∀ {ds : List D}, (∀ d ∈ ds, intsOk d = true) → intsOks ds = true
  | [], _ => rfl
  | d :: r, h => by
    rw [intsOks, h d List.mem_cons_self, intsOks_of fun e he => h e (List.mem_cons_of_mem _ he)]
    rfl
theorem RecD.ints : ∀ {n : Nat} {ds : List D}, RecD n ds → intsOks ds = true
  | 0, _, h => h.elim
  | n + 1, ds, h => intsOks_of fun d hd => by
    obtain ⟨s, v, rfl, hs, hv⟩ := h.2 d hd
    have : intsOk v = true := by
      rcases hv with hv | ⟨es, rfl, he⟩ | ⟨es, rfl, _, he⟩
      · exact hv.fine.2.2.1
      · rw [intsOk]
        exact he.ints
      · rw [intsOk]
        refine intsOks_of fun d hd => ?_
        obtain ⟨i, fs, rfl, hi, hf⟩ := he d hd
        have h1 := (tame_I (i := (i : Int)) (by omega)).2
        rw [intsOk, intsOks, intsOks, intsOks, intsOk, intsOk, hf.ints, decide_eq_true (by omega)]
        rfl
    rw [intsOk, intsOks, intsOks, intsOks, this]
    rfl
/-- how long the text of a record is -/
def recMost : Nat → Nat
  | 0 => 0
  | n + 1 => 3 + 3 * (15 + max 62 (2 * recMost n + 15))
/-- the text of a record: tame and not long -/
def Good (M : Nat) (l : List Nat) : Prop := Tame l ∧ l.length ≤ M
theorem pRec_cons {ds : List D} : pRec ds = 123 :: (pPairs ds ++ 32 :: [125]) := rfl
theorem RecD.good : ∀ {n : Nat} {ds : List D}, RecD n ds → Good (recMost n) (pRec ds)
  | 0, _, h => h.elim
  | n + 1, ds, h => by
    have P : ∀ {fs : List D}, RecD n fs → Good (recMost n) (pRec fs) := fun h => h.good
    have W : ∀ {v : D}, WD (RecD n) v → Good (max 62 (2 * recMost n + 15)) (pWorth v) := fun {v} hv => by
      rcases hv with hv | ⟨es, rfl, he⟩ | ⟨es, rfl, len, he⟩
      · obtain ⟨_, _, _, h4, h5, h6⟩ := hv.fine
        rw [h6]
        exact ⟨h4, by omega⟩
      · rw [pWorth]
        by_cases e : es = []
        · subst e
          rw [if_neg (show ¬ recB [] = true from Bool.false_ne_true), pRows]
          exact ⟨Tame.of (by decide) (by decide), by show 3 ≤ _; omega⟩
        · have : recB es = true := by
            have ok : RecOk n es := he.ok (Nat.le_refl _)
            cases es with
            | nil => exact absurd rfl e
            | cons d r =>
              cases n with
              | zero => exact ok.elim
              | succ n =>
                obtain ⟨s, v, rfl, _, _⟩ := ok d List.mem_cons_self
                rfl
          rw [if_pos this]
          have := P he
          exact ⟨this.1, by have := this.2; rw [pRec] at this; omega⟩
      · rw [pWorth]
        have nb : ¬ recB es = true := by
          cases es with
          | nil => exact Bool.false_ne_true
          | cons d r =>
            obtain ⟨i, fs, rfl, _⟩ := he d List.mem_cons_self
            exact Bool.false_ne_true
        rw [if_neg nb]
        have R : ∀ d ∈ es, ∃ l, pRow d = 32 :: l ∧ Tame l ∧ l.length ≤ recMost n + 5 := fun d hd => by
          obtain ⟨i, fs, rfl, hi, hf⟩ := he d hd
          obtain ⟨t1, l1⟩ := P hf
          have hN := digits_len 1 i (by omega)
          obtain ⟨t2, _⟩ := tame_N (n := i) (by omega)
          refine ⟨35 :: (pN i ++ 32 :: pRec fs), ?_, ?_, ?_⟩
          · rw [pRow, pNo, pI_nat]
            rfl
          · exact Tame.cons (t2.app (t1.cons (by decide) (by decide)) (by decide)) (by decide) (by decide)
          · rw [List.length_cons, List.length_append, List.length_cons]
            omega
        refine ⟨Tame.cons (tame_flat (c := 32) (by decide) (by decide) (fun d hd => by obtain ⟨l, a, b, _⟩ := R d hd; exact ⟨l, a, b⟩) (g := pRows) (by rw [pRows]) (fun d r => by rw [pRows]) (by decide) (Tame.of (by decide) (by decide))) (by decide) (by decide), ?_⟩
        have : (pRows es).length ≤ es.length * (recMost n + 6) := by
          clear nb len he
          induction es with
          | nil => rw [pRows]; exact Nat.zero_le _
          | cons d r ih =>
            have := ih fun x hx => R x (List.mem_cons_of_mem _ hx)
            obtain ⟨l, a, _, b⟩ := R d List.mem_cons_self
            rw [pRows, a, List.length_append, List.length_cons, List.length_cons, Nat.succ_mul]
            omega
        have h2 : es.length * (recMost n + 6) ≤ 2 * (recMost n + 6) := Nat.mul_le_mul_right _ len
        rw [List.length_cons, List.length_append]
        show _ + 2 + 1 ≤ _
        omega
    have R : ∀ d ∈ ds, ∃ l, pPair d = 32 :: l ∧ Tame l ∧ l.length ≤ 14 + (max 62 (2 * recMost n + 15)) := fun d hd => by
      obtain ⟨s, v, rfl, hs, hv⟩ := h.2 d hd
      obtain ⟨t1, l1⟩ := W hv
      obtain ⟨_, _, t2, l2⟩ := hs.tame
      refine ⟨s ++ 58 :: 32 :: pWorth v, ?_, ?_, ?_⟩
      · rw [pPair, pNm]
      · exact t2.app (Tame.cons (t1.cons (by decide) (by decide)) (by decide) (by decide)) (by decide)
      · rw [List.length_append, List.length_cons, List.length_cons]
        omega
    refine ⟨Tame.cons (tame_flat (c := 32) (by decide) (by decide) (fun d hd => by obtain ⟨l, a, b, _⟩ := R d hd; exact ⟨l, a, b⟩) (g := pPairs) (by rw [pPairs]) (fun d r => by rw [pPairs]) (by decide) (Tame.of (by decide) (by decide))) (by decide) (by decide), ?_⟩
    have len := h.1
    have : (pPairs ds).length ≤ ds.length * (15 + (max 62 (2 * recMost n + 15))) := by
      clear len h
      induction ds with
      | nil => rw [pPairs]; exact Nat.zero_le _
      | cons d r ih =>
        have := ih fun x hx => R x (List.mem_cons_of_mem _ hx)
        obtain ⟨l, a, _, b⟩ := R d List.mem_cons_self
        rw [pPairs, a, List.length_append, List.length_cons, List.length_cons, Nat.succ_mul]
        omega
    have h2 : ds.length * (15 + (max 62 (2 * recMost n + 15))) ≤ 3 * (15 + (max 62 (2 * recMost n + 15))) := Nat.mul_le_mul_right _ len
    rw [pRec, List.length_cons, List.length_append, recMost]
    show _ + 2 + 1 ≤ _
    omega
end K9

set_option maxHeartbeats 400000
/-! What is drawn: steps, deeds. -/
namespace K9
open PySem PySem.Spec PyProof.Rows L2 K2

theorem tame_flat0 {c : Nat} (hc : isDig c = false) (n : (decide (c ≠ 59) && decide (c < 128)) = true) {α : Type} {f : α → List Nat} {ds : List α} (h : ∀ d ∈ ds, ∃ l, f d = c :: l ∧ Tame l) {g : List α → List Nat} (g0 : g [] = []) (gc : ∀ d r, g (d :: r) = f d ++ g r) : Tame (g ds) ∧ (g ds = [] ∨ ∃ t, g ds = c :: t) := by
  induction ds with
  | nil =>
    rw [g0]
    exact ⟨Tame.nil, .inl rfl⟩
  | cons d r ih =>
    obtain ⟨ih, st⟩ := ih fun x hx => h x (List.mem_cons_of_mem _ hx)
    obtain ⟨l, e1, tl⟩ := h d List.mem_cons_self
    rw [gc, e1]
    refine ⟨?_, .inr ⟨_, List.cons_append⟩⟩
    rcases st with st | ⟨t, st⟩
    · rw [st, List.append_nil]
      exact tl.cons hc n
    · rw [st] at ih ⊢
      rw [List.cons_append]
      exact (tl.app ih hc).cons hc n
def PartD (e : D) : Prop := (∃ s, e = .str s ∧ NameD s) ∨ (∃ i : Nat, e = .int i ∧ i ≤ 10 ^ 6) ∨ e = .str (cp "*")
theorem PartD.fine {e : D} (h : PartD e) : PtFine e ∧ Tame (pPart e) ∧ (pPart e).length ≤ 12 := by
  rcases h with ⟨s, rfl, hs⟩ | ⟨i, rfl, hi⟩ | rfl
  · obtain ⟨_, h2, h3, h4⟩ := hs.tame
    exact ⟨.str h2, h3, h4⟩
  · obtain ⟨h1, h2⟩ := tame_I (i := (i : Int)) (by omega)
    refine ⟨.int (by omega), h1.cons (by decide) (by decide), ?_⟩
    show (35 :: pI i).length ≤ 12
    rw [List.length_cons]
    omega
  · exact ⟨.str fun c hc => by
      have : c ∈ [42] := hc
      rw [List.mem_singleton] at this
      omega, Tame.of (by decide) (by decide), by decide⟩
def PathD (p : List D) : Prop := ∃ e r, p = e :: r ∧ PartD e ∧ (∀ x ∈ r, PartD x) ∧ r.length ≤ 4
theorem PathD.fine {p : List D} (h : PathD p) : (∀ e ∈ p, PtFine e) ∧ Tame (pPath p) ∧ (pPath p).length ≤ 64 ∧ p ≠ [] := by
  obtain ⟨e, r, rfl, he, hr, lr⟩ := h
  obtain ⟨h1, h2, h3⟩ := he.fine
  have R : ∀ d ∈ r, ∃ l, (46 :: pPart d) = 46 :: l ∧ Tame l := fun d hd => ⟨_, rfl, (hr d hd).fine.2.1⟩
  obtain ⟨t1, st⟩ := tame_flat0 (c := 46) (by decide) (by decide) R (g := pMore) rfl fun d r => rfl
  refine ⟨fun x hx => ?_, ?_, ?_, fun z => nomatch z⟩
  · rcases List.mem_cons.mp hx with rfl | hx
    · exact h1
    · exact (hr x hx).fine.1
  · show Tame (pPart e ++ pMore r)
    rcases st with st | ⟨t, st⟩
    · rw [st, List.append_nil]
      exact h2
    · rw [st] at t1 ⊢
      exact h2.app t1 (by decide)
  · show (pPart e ++ pMore r).length ≤ 64
    have : (pMore r).length ≤ r.length * 13 := by
      clear R t1 st lr
      induction r with
      | nil => exact Nat.le_refl _
      | cons d r ih =>
        have := ih fun x hx => hr x (List.mem_cons_of_mem _ hx)
        have := (hr d List.mem_cons_self).fine.2.2
        rw [pMore, List.length_cons, List.length_append, List.length_cons, Nat.succ_mul]
        omega
    rw [List.length_append]
    omega
def PlaceD (d : D) : Prop := ∃ n p, d = .tup [.str n, .tup p] ∧ NameD n ∧ PathD p
theorem PlaceD.fine {d : D} (h : PlaceD d) : PlFine d ∧ (dat d).canLay0 = true ∧ Tame (pPlace d) ∧ (pPlace d).length ≤ 77 := by
  obtain ⟨n, p, rfl, hn, hp⟩ := h
  obtain ⟨h1, h2, h3, h4⟩ := hp.fine
  obtain ⟨_, n2, n3, n4⟩ := hn.tame
  refine ⟨⟨n, p, rfl, PathOk.of h1⟩, lay_list fun d hd => ?_, n3.app (h2.cons (by decide) (by decide)) (by decide), ?_⟩
  · simp only [List.mem_cons, List.not_mem_nil, or_false] at hd
    rcases hd with rfl | rfl
    · exact lay_str n2
    · refine lay_list fun e he => ?_
      obtain ⟨a1, a2, a3⟩ := h1 e he
      cases e with
      | int i => exact lay_int i
      | str s => exact lay_str (a3 s rfl)
      | tup _ => exact a1.elim
  · show (n ++ 47 :: pPath p).length ≤ 77
    rw [List.length_append, List.length_cons]
    omega
inductive StepD : D → Prop
  | set (p v : D) : PlaceD p → LitD v → StepD (.tup [.str (txt "set"), p, v])
  | take (p : D) (n : Nat) : PlaceD p → n < 20 → StepD (.tup [.str (txt "take"), p, .int n])
  | put (p : D) (i s : Nat) (ds : List D) : PlaceD p → i ≤ 10 ^ 8 → s < 20 → RecD 4 ds → StepD (.tup [.str (txt "put"), p, .int i, .int s, .tup ds])
  | carry (p o : D) (s i : Nat) : PlaceD p → PlaceD o → s < 20 → i ≤ 10 ^ 8 → StepD (.tup [.str (txt "carry"), p, .int s, o, .int i])
theorem tameT {s : String} (h : (txt s).all (fun c => decide (c ≠ 59) && decide (c < 128)) = true) (d : run 0 (txt s) ≤ 9) : Tame (txt s) := Tame.of h d
theorem Tame.sp {a b : List Nat} (x : Tame a) (y : Tame b) : Tame (a ++ 32 :: b) := x.app (y.cons (by decide) (by decide)) (by decide)
theorem recMost4 : recMost 4 = 54543 := by decide
theorem StepD.fine {d : D} (h : StepD d) : StepGood d ∧ Tame (pStep d) ∧ (pStep d).length ≤ 54700 := by
  have tset : ¬ txt "take" = txt "set" := by decide +kernel
  have tput : ¬ txt "carry" = txt "put" := by decide +kernel
  have l1 : (txt "set").length = 3 := by decide +kernel
  have l2 : (txt "take").length = 4 := by decide +kernel
  have l3 : (txt "put").length = 3 := by decide +kernel
  have l4 : (txt "carry").length = 5 := by decide +kernel
  cases h with
  | set p v hp hv =>
    obtain ⟨p1, p2, p3, p4⟩ := hp.fine
    obtain ⟨v1, v2, v3, v4, v5, _⟩ := hv.fine
    refine ⟨⟨.set p v p1 v2 v3, lay_list fun d hd => ?_⟩, ?_, ?_⟩
    · simp only [List.mem_cons, List.not_mem_nil, or_false] at hd
      rcases hd with rfl | rfl | rfl
      · exact lay_txt (by decide +kernel)
      · exact p2
      · exact lay_lit v2 v1
    · rw [pStep, if_pos rfl]
      exact (tameT (by decide +kernel) (by decide +kernel)).sp (p3.sp v4)
    · rw [pStep, if_pos rfl]
      simp only [List.length_append, List.length_cons]
      omega
  | take p n hp hn =>
    obtain ⟨p1, p2, p3, p4⟩ := hp.fine
    obtain ⟨v1, v2⟩ := tame_I (i := (n : Int)) (by omega)
    refine ⟨⟨.take p n p1 (by omega), lay_list fun d hd => ?_⟩, ?_, ?_⟩
    · simp only [List.mem_cons, List.not_mem_nil, or_false] at hd
      rcases hd with rfl | rfl | rfl
      · exact lay_txt (by decide +kernel)
      · exact p2
      · exact lay_int _
    · rw [pStep, if_neg tset]
      exact (tameT (by decide +kernel) (by decide +kernel)).sp (p3.sp (v1.cons (by decide) (by decide)))
    · rw [pStep, if_neg tset]
      simp only [List.length_append, List.length_cons, pNo]
      omega
  | put p i s ds hp hi hs hd =>
    obtain ⟨p1, p2, p3, p4⟩ := hp.fine
    obtain ⟨v1, v2⟩ := tame_I (i := (i : Int)) (by omega)
    obtain ⟨w1, w2⟩ := tame_I (i := (s : Int)) (by omega)
    obtain ⟨g1, g2⟩ := hd.good
    rw [recMost4] at g2
    refine ⟨⟨.put p i s ds p1 (by omega) (by omega) (hd.ok (by decide)) hd.ints, lay_list fun d hd' => ?_⟩, ?_, ?_⟩
    · simp only [List.mem_cons, List.not_mem_nil, or_false] at hd'
      rcases hd' with rfl | rfl | rfl | rfl | rfl
      · exact lay_txt (by decide +kernel)
      · exact p2
      · exact lay_int _
      · exact lay_int _
      · exact lay_list (lay_rec (hd.ok (Nat.le_refl _)))
    · rw [pStep, if_pos rfl]
      exact (tameT (by decide +kernel) (by decide +kernel)).sp (p3.sp (v1.sp ((w1.sp g1).cons (by decide) (by decide))))
    · rw [pStep, if_pos rfl]
      simp only [List.length_append, List.length_cons, pNo]
      omega
  | carry p o s i hp ho hs hi =>
    obtain ⟨p1, p2, p3, p4⟩ := hp.fine
    obtain ⟨o1, o2, o3, o4⟩ := ho.fine
    obtain ⟨v1, v2⟩ := tame_I (i := (i : Int)) (by omega)
    obtain ⟨w1, w2⟩ := tame_I (i := (s : Int)) (by omega)
    refine ⟨⟨.carry p o s i p1 o1 (by omega) (by omega), lay_list fun d hd' => ?_⟩, ?_, ?_⟩
    · simp only [List.mem_cons, List.not_mem_nil, or_false] at hd'
      rcases hd' with rfl | rfl | rfl | rfl | rfl
      · exact lay_txt (by decide +kernel)
      · exact p2
      · exact lay_int _
      · exact o2
      · exact lay_int _
    · rw [pStep, if_neg tput]
      · exact (tameT (by decide +kernel) (by decide +kernel)).sp (p3.sp ((w1.sp (o3.sp v1)).cons (by decide) (by decide)))
      · exact fun ds e => nomatch e
    · rw [pStep, if_neg tput]
      · simp only [List.length_append, List.length_cons, pNo]
        omega
      · exact fun ds e => nomatch e
/-- a page that is drawn -/
structure PageD (l : List Nat) : Prop where
  len : l.length ≤ 219000
  cnt : cnt 0 l ≤ 5
  run : run 0 l ≤ 9
  sm : Small l
theorem edit_page {ds : List D} (h : ∀ d ∈ ds, StepD d) (le : ds.length ≤ 4) : PageD (pEdit ds) := by
  cases ds with
  | nil => exact ⟨by decide, by decide, by decide, by unfold Small; decide⟩
  | cons d r =>
    have t1 := (h d List.mem_cons_self).fine
    have tr : ∀ x ∈ r, StepD x := fun x hx => h x (List.mem_cons_of_mem _ hx)
    rw [pEdit, pEMore_pm]
    rw [List.length_cons] at le
    obtain ⟨c, u⟩ := page_fine t1.2.1 (ts := r.map pStep) fun t ht => by
      obtain ⟨x, hx, rfl⟩ := List.mem_map.mp ht
      exact (tr x hx).fine.2.1
    have l := pm_len (M := 54700) (ts := r.map pStep) fun t ht => by
      obtain ⟨x, hx, rfl⟩ := List.mem_map.mp ht
      exact (tr x hx).fine.2.2
    rw [List.length_map] at c l
    have sm := page_small t1.2.1 (ts := r.map pStep) fun t ht => by
      obtain ⟨x, hx, rfl⟩ := List.mem_map.mp ht
      exact (tr x hx).fine.2.1
    have h2 : r.length * 54702 ≤ 3 * 54702 := Nat.mul_le_mul_right _ (by omega)
    have h3 := t1.2.2
    exact ⟨by rw [List.length_append]; omega, by omega, u, sm⟩
/-! ### deeds -/
def ownS : List Str := ["", "box", "wide", "goods"]
theorem ownS_fine : ∀ y ∈ ownS, Small (cp y) ∧ (cp y).all (fun c => decide (c ≠ 59) && decide (c < 128)) = true ∧ run 0 (cp y) ≤ 9 ∧ (cp y).length ≤ 5 := by
  intro y hy
  have : ∀ y ∈ ownS, (cp y).all (fun c => decide (c < 128)) = true ∧ (cp y).all (fun c => decide (c ≠ 59) && decide (c < 128)) = true ∧ run 0 (cp y) ≤ 9 ∧ (cp y).length ≤ 5 := by decide +kernel
  obtain ⟨h1, h2⟩ := this y hy
  exact ⟨fun c hc => of_decide_eq_true (List.all_eq_true.mp h1 c hc), h2⟩
def SpotD (d : D) : Prop := ∃ o ∈ ownS, ∃ p, d = .tup [.str (cp "main"), .str (cp o), .tup p] ∧ PathD p
theorem SpotD.fine {d : D} (h : SpotD d) : Tame (pSpot d) ∧ (pSpot d).length ≤ 80 ∧ ∃ f o p, d = .tup [.str f, .str o, .tup p] ∧ Small f ∧ Small o ∧ ∀ e ∈ p, PtFine e := by
  obtain ⟨o, ho, p, rfl, hp⟩ := h
  obtain ⟨h1, h2, h3, h4⟩ := hp.fine
  obtain ⟨o1, o2, o3, o4⟩ := ownS_fine o ho
  have hm : NameD (cp "main") := ⟨"main", by decide +kernel, rfl⟩
  obtain ⟨_, n2, n3, n4⟩ := hm.tame
  refine ⟨n3.app (((Tame.of o2 o3).app (h2.cons (by decide) (by decide)) (by decide)).cons (by decide) (by decide)) (by decide), ?_, _, _, _, rfl, n2, o1, h1⟩
  show (cp "main" ++ 47 :: (cp o ++ 47 :: pPath p)).length ≤ 80
  have : (cp "main").length = 4 := by decide +kernel
  simp only [List.length_append, List.length_cons]
  omega
def RowD (d : D) : Prop := ∃ i : Nat, d = .int i ∧ i < 40
inductive DeedD : D → Prop
  | set (s v : D) : SpotD s → LitD v → DeedD (.tup [.str (txt "set"), s, v])
  | gone (s : D) : SpotD s → DeedD (.tup [.str (txt "gone"), s])
  | order (f : List Nat) (ds : List D) : NameD f → (∀ d ∈ ds, RowD d) → ds.length ≤ 3 → DeedD (.tup [.str (txt "order"), .str f, .str (cp "people"), .tup ds])
theorem DeedD.fine {d : D} (h : DeedD d) : DeedFine d ∧ Tame (pDeed d) ∧ (pDeed d).length ≤ 150 := by
  have l1 : (txt "set").length = 3 := by decide +kernel
  have l2 : (txt "gone").length = 4 := by decide +kernel
  have l3 : (txt "order").length = 5 := by decide +kernel
  cases h with
  | set s v hs hv =>
    obtain ⟨s1, s2, f, o, p, rfl, h1, h2, h3⟩ := hs.fine
    obtain ⟨v1, v2, v3, v4, v5, _⟩ := hv.fine
    refine ⟨.set f o p v h1 h2 h3 v2 v3 v1, ?_, ?_⟩
    · exact (tameT (s := "set") (by decide +kernel) (by decide +kernel)).sp (s1.sp v4)
    · show (txt "set" ++ 32 :: (pSpot _ ++ 32 :: pLit v)).length ≤ 150
      simp only [List.length_append, List.length_cons]
      omega
  | gone s hs =>
    obtain ⟨s1, s2, f, o, p, rfl, h1, h2, h3⟩ := hs.fine
    refine ⟨.gone f o p h1 h2 h3, (tameT (s := "gone") (by decide +kernel) (by decide +kernel)).sp s1, ?_⟩
    show (txt "gone" ++ 32 :: pSpot _).length ≤ 150
    simp only [List.length_append, List.length_cons]
    omega
  | order f ds hf hd hl =>
    obtain ⟨_, n2, n3, n4⟩ := hf.tame
    have pe : Tame (cp "people") := Tame.of (by decide +kernel) (by decide +kernel)
    have pl : (cp "people").length = 6 := by decide +kernel
    have ps : Small (cp "people") := fun c hc => of_decide_eq_true (List.all_eq_true.mp (show (cp "people").all (fun c => decide (c < 128)) = true by decide +kernel) c hc)
    have R : ∀ d ∈ ds, Ser d ∧ Tame (pNo d) ∧ (pNo d).length ≤ 10 := fun d hd' => by
      obtain ⟨i, rfl, hi⟩ := hd d hd'
      obtain ⟨v1, v2⟩ := tame_I (i := (i : Int)) (by omega)
      exact ⟨⟨i, rfl, by omega⟩, v1, v2⟩
    have T : Tame (pSers ds) ∧ (pSers ds).length ≤ 40 := by
      cases ds with
      | nil => exact ⟨Tame.of (by decide) (by decide), by decide⟩
      | cons d r =>
        obtain ⟨_, a, b⟩ := R d List.mem_cons_self
        obtain ⟨t1, st⟩ := tame_flat0 (c := 32) (by decide) (by decide) (f := fun d => 32 :: 35 :: pNo d) (ds := r) (fun x hx => ⟨_, rfl, (R x (List.mem_cons_of_mem _ hx)).2.1.cons (by decide) (by decide)⟩) (g := pSMore) rfl fun d r => rfl
        refine ⟨?_, ?_⟩
        · show Tame (35 :: (pNo d ++ pSMore r))
          refine Tame.cons ?_ (by decide) (by decide)
          rcases st with st | ⟨t, st⟩
          · rw [st, List.append_nil]
            exact a
          · rw [st] at t1 ⊢
            exact a.app t1 (by decide)
        · show (35 :: (pNo d ++ pSMore r)).length ≤ 40
          have : (pSMore r).length ≤ r.length * 12 := by
            have R' : ∀ x ∈ r, (pNo x).length ≤ 10 := fun x hx => (R x (List.mem_cons_of_mem _ hx)).2.2
            clear R t1 st hd hl
            induction r with
            | nil => exact Nat.le_refl _
            | cons d r ih =>
              have := ih fun x hx => R' x (List.mem_cons_of_mem _ hx)
              have := R' d List.mem_cons_self
              rw [pSMore, List.length_cons, List.length_cons, List.length_append, List.length_cons, Nat.succ_mul]
              omega
          rw [List.length_cons] at hl
          rw [List.length_cons, List.length_append]
          omega
    refine ⟨.order f _ ds n2 ps fun d hd' => (R d hd').1, ?_, ?_⟩
    · exact (tameT (s := "order") (by decide +kernel) (by decide +kernel)).sp (n3.app ((pe.sp T.1).cons (by decide) (by decide)) (by decide))
    · show (txt "order" ++ 32 :: (f ++ 47 :: (cp "people" ++ 32 :: pSers ds))).length ≤ 150
      simp only [List.length_append, List.length_cons]
      omega
theorem plan_page {ds : List D} (h : ∀ d ∈ ds, DeedD d) (le : ds.length ≤ 5) : PageD (pPlan ds) := by
  cases ds with
  | nil => exact ⟨by decide, by decide, by decide, by unfold Small; decide⟩
  | cons d r =>
    have t1 := (h d List.mem_cons_self).fine
    have tr : ∀ x ∈ r, DeedD x := fun x hx => h x (List.mem_cons_of_mem _ hx)
    rw [pPlan, pPMore_pm]
    rw [List.length_cons] at le
    obtain ⟨c, u⟩ := page_fine t1.2.1 (ts := r.map pDeed) fun t ht => by
      obtain ⟨x, hx, rfl⟩ := List.mem_map.mp ht
      exact (tr x hx).fine.2.1
    have l := pm_len (M := 150) (ts := r.map pDeed) fun t ht => by
      obtain ⟨x, hx, rfl⟩ := List.mem_map.mp ht
      exact (tr x hx).fine.2.2
    rw [List.length_map] at c l
    have sm := page_small t1.2.1 (ts := r.map pDeed) fun t ht => by
      obtain ⟨x, hx, rfl⟩ := List.mem_map.mp ht
      exact (tr x hx).fine.2.1
    have h2 : r.length * 152 ≤ 4 * 152 := Nat.mul_le_mul_right _ (by omega)
    have h3 := t1.2.2
    exact ⟨by rw [List.length_append]; omega, by omega, u, sm⟩
end K9

set_option maxHeartbeats 400000
/-! Names and literals drawn. -/
namespace K9
open PySem PySem.Spec PyProof.Rows L2 K2

theorem op_mulS {X : Cx} : OpR X (binaryOp .Mult) (fun x y H Q => ∃ z k, x = .str z ∧ y = .int k ∧ MulOk z k ∧ Q (.str (Txt.mul z k)) H) := by
  intro pins s σ H x y v u Q I rx ry h
  obtain ⟨z, k, rfl, rfl, hm, q⟩ := h
  obtain ⟨t, rfl⟩ := rx
  obtain ⟨t', rfl⟩ := ry
  exact PySem.SB.mul hm fun t' tk => ⟨.str (Txt.mul z k), H, I.tok _, ⟨_, rfl⟩, q⟩
theorem mul60 : Txt.mul (Str.ofString "x") 60 = ⟨⟨List.replicate 60 120⟩⟩ := by decide +kernel

theorem _root_.K2.Box.at {c : Int} {H H' : Hp} {b : Addr} (x : Box c H b) (s : Same H H') : Box c H' b := by
  obtain ⟨o, m, k, e, r⟩ := x
  exact ⟨o, m, k, s _ _ e, r⟩
theorem _root_.K2.Box.some {c : Int} {H : Hp} {b : Addr} (x : Box c H b) : H b ≠ none := by
  obtain ⟨o, m, k, e, _⟩ := x
  rw [e]
  simp
theorem _root_.K2.Box.le {c c' : Int} {H : Hp} {b : Addr} (x : Box c H b) (h : c ≤ c') : Box c' H b := by
  obtain ⟨o, m, k, e, h1, h2, h3, h4⟩ := x
  exact ⟨o, m, k, e, h1, h2, h3, by omega⟩
theorem keptS {b : Addr} {H H' : Hp} (s : Same H H') : Kept b H H' := fun a o e _ => s a o e
theorem _root_.K2.Box.tupK {c : Int} {H H' : Hp} {b : Addr} (x : Box c H b) (k : Kept b H H') : TupK H H' := fun t vs e => k t _ e (by
  rintro rfl
  obtain ⟨o, m, n, e', _⟩ := x
  rw [e'] at e
  cases e)
theorem _root_.K2.Box.nelst {c : Int} {H : Hp} {b l : Addr} (x : Box c H b) (n : H l = none) : l ≠ b := by
  rintro rfl
  exact x.some n
theorem grow {H : Hp} {p : Addr} {o : HO} (n : H p = none) : Same H (upd H p o) ∧ (upd H p o) p = some o ∧
    ∀ a, (upd H p o) a = none → H a = none := ⟨same_upd n, upd_same, fun a z => (same_upd n).free z⟩

theorem scNameD : FnScope ["_law_box_here"] ["_law_box_here"] (defScope sName) := ⟨rfl, rfl, rfl, by decide +kernel, rfl, by decide +kernel, by decide +kernel⟩
theorem scLitD : FnScope ["_law_box_here", "_law_some"] ["_law_box_here"] (defScope sLiteral) := ⟨rfl, rfl, rfl, by decide +kernel, rfl, by decide +kernel, by decide +kernel⟩
def spName : Sp := fun vs H Q _ => ∃ (b : Addr) (c : Int), vs = [.ref b] ∧ Box c H b ∧ c + 1 ≤ 200000 ∧ ∀ H' y, Kept b H H' → Box (c + 1) H' b → y ∈ nameS → Q (.str y) H'
def spLitD : Sp := fun vs H Q _ => ∃ (b : Addr) (c : Int), vs = [.ref b] ∧ Box c H b ∧ c + 2 ≤ 200000 ∧ ∀ H' v d, Kept b H H' → Box (c + 2) H' b → Rep H' v d → LitD d → Q v H'
def lit1 (i : Int) : List V := [.int 0, .int 7, .int (-1), .int (-999), .int (10 ^ 8), .int i, .str "", .str "x", .str "a; b", .str "{ }"]
def lit2 : List V := [.str "[ #1 ]", .str " | ", .str "-", .str "#", .str "  ", .str "-0", .str "~!/.:", .str ⟨⟨List.replicate 60 120⟩⟩]
theorem lit_mem {i : Int} (h : i.natAbs < 10 ^ 9) {v : V} (hv : v ∈ lit1 i ++ lit2) : ∃ d, LitD d ∧ ∀ H, Rep H v d := by
  have I : ∀ j : Int, j.natAbs < 10 ^ 9 → ∃ d, LitD d ∧ ∀ H, Rep H (V.int j) d := fun j hj => ⟨.int j, .inl ⟨j, rfl, hj⟩, fun _ => .int j⟩
  have S : ∀ y ∈ litS, ∃ d, LitD d ∧ ∀ H, Rep H (V.str y) d := fun y hy => ⟨.str (cp y), .inr ⟨y, hy, rfl⟩, fun _ => .str y⟩
  simp only [lit1, lit2, List.cons_append, List.nil_append, List.mem_cons, List.not_mem_nil, or_false] at hv
  rcases hv with h' | h' | h' | h' | h' | h' | h' | h' | h' | h' | h' | h' | h' | h' | h' | h' | h' | h' <;> subst h'
  · exact I _ (by decide)
  · exact I _ (by decide)
  · exact I _ (by decide)
  · exact I _ (by decide)
  · exact I _ (by decide)
  · exact I _ h
  all_goals exact S _ (by decide +kernel)
section
variable {P : Program} {w : World} {K : PySem.W.Frag} {mg : Str → Option Value} {base : Heap}
theorem ok_nameD {f fO : Addr} {fd fdO : FuncData} (F : Fun K "_law_name" "_law_name" sName f fd)
    (kO : PySem.W.keepIn K (.ref fO) = true) (bO : Binds K fdO ["_law_box_here", "_law_some"] []) (gO : mg "_law_of" = some (.ref fO)) (GO : FnOk P w K mg base CX0 2 fO fdO ["_law_box_here", "_law_some"] spOf) :
    FnOk P w K mg base CX0 3 f fd ["_law_box_here"] spName := by
  refine F.ok scNameD (fun vs H Q E h => ?_) (fun cdv A outer s H vs Q E hr h => ?_)
  · obtain ⟨b, c, rfl, _⟩ := h
    rfl
  · obtain ⟨b, c, rfl, hb, hc, q⟩ := h
    refine ⟨_, pss_one (ps_ret (pe_call GO hr (by rfl) gO kO bO .nil pass0 (pa_cons (pv 0) (pa_cons (pe_lst (pa_cons pe_str (pa_cons pe_str (pa_cons pe_str (pa_cons pe_str (pa_cons pe_str
      (pa_cons pe_str (pa_cons pe_str (pa_cons pe_str (pa_cons (pe_op op_add_str pe_str pe_str) (pa_cons pe_str pa_nil))))))))))) pa_nil)))), ?_⟩
    refine ⟨_, rfl, _, _, rfl, rfl, by decide, by show 10 ≤ _; decide, fun l n => ?_⟩
    have e : Str.ofString "list" ++ Str.ofString "s" = Str.ofString "lists" := by decide +kernel
    rw [e]
    obtain ⟨s1, g1, _⟩ := grow (o := .lst (nameS.map V.str)) n
    show spOf [.ref b, .ref l] (upd H l (.lst (nameS.map V.str))) _ E0
    generalize upd H l (.lst (nameS.map V.str)) = H1 at s1 g1 ⊢
    refine ⟨b, l, _, c, rfl, hb.at s1, g1, hb.nelst n, by decide +kernel, by decide +kernel, by omega, fun H' v k hb' hv => ?_⟩
    obtain ⟨y, hy, rfl⟩ := List.mem_map.mp hv
    exact q H' y ((keptS s1).trans k) hb' hy
theorem ok_litD {f fT fO : Addr} {fd fdT fdO : FuncData} (F : Fun K "_law_literal" "_law_literal" sLiteral f fd)
    (kT : PySem.W.keepIn K (.ref fT) = true) (bT : Binds K fdT ["_law_box_here", "_law_many"] []) (gT : mg "_law_take" = some (.ref fT)) (GT : FnOk P w K mg base CX0 1 fT fdT ["_law_box_here", "_law_many"] spTake)
    (kO : PySem.W.keepIn K (.ref fO) = true) (bO : Binds K fdO ["_law_box_here", "_law_some"] []) (gO : mg "_law_of" = some (.ref fO)) (GO : FnOk P w K mg base CX0 2 fO fdO ["_law_box_here", "_law_some"] spOf) :
    FnOk P w K mg base CX0 3 f fd ["_law_box_here"] spLitD := by
  refine F.ok scLitD (fun vs H Q E h => ?_) (fun cdv A outer s H vs Q E hr h => ?_)
  · obtain ⟨b, c, rfl, _⟩ := h
    rfl
  · obtain ⟨b, c, rfl, hb, hc, q⟩ := h
    have hr1 := hr.mono (show 1 ≤ 2 by decide)
    refine ⟨_, pss_cons (ps_set (i := 1) scLitD.nd rfl (.inl rfl) (pe_lst (pa_cons pe_int (pa_cons pe_int (pa_cons (pe_un un_neg pe_int) (pa_cons (pe_un un_neg pe_int) (pa_cons (pe_op op_pow pe_int pe_int)
        (pa_cons (pe_op op_sub (pe_call GT hr1 (by rfl) gT kT bT .nil pass0 (pa_cons (pv 0) (pa_cons pe_int pa_nil))) pe_int) (pa_cons pe_str (pa_cons pe_str (pa_cons pe_str (pa_cons pe_str pa_nil))))))))))))
      (pss_one (ps_ret (pe_call GO hr (by rfl) gO kO bO .nil pass0 (pa_cons (pv 0) (pa_cons (pe_op op_cat (pv 1) (pe_lst (pa_cons pe_str (pa_cons pe_str (pa_cons pe_str (pa_cons pe_str (pa_cons pe_str
        (pa_cons pe_str (pa_cons pe_str (pa_cons (pe_op op_mulS pe_str pe_int) pa_nil)))))))))) pa_nil))))), ?_⟩
    refine ⟨_, rfl, _, rfl, _, _, rfl, rfl, ⟨by decide, by decide, by decide⟩, _, rfl, b, 1000, c, rfl, hb, by decide, by decide, by omega, fun H1 r k1 b1 r0 r1 => ⟨_, _, rfl, rfl, by show 10 ≤ _; decide, fun l n => ?_⟩⟩
    obtain ⟨s1, g1, _⟩ := grow (o := .lst (lit1 (r - 500))) n
    show gName 1 (.ref l) _ (upd H1 l (.lst (lit1 (r - 500)))) _
    generalize upd H1 l (.lst (lit1 (r - 500))) = H2 at s1 g1 ⊢
    refine ⟨_, rfl, _, rfl, _, _, rfl, rfl, ⟨by decide, by decide +kernel, by decide +kernel⟩, by show 8 ≤ _; decide, fun m n2 => ?_⟩
    rw [mul60]
    obtain ⟨s2, g2, _⟩ := grow (o := .lst lit2) n2
    show rCat _ (.ref m) (upd H2 m (.lst lit2)) _
    generalize upd H2 m (.lst lit2) = H3 at s2 g2 ⊢
    refine ⟨l, m, _, _, rfl, rfl, s2 _ _ g1, g2, by show 18 ≤ _; decide, fun o n3 => ?_⟩
    obtain ⟨s3, g3, _⟩ := grow (o := .lst (lit1 (r - 500) ++ lit2)) n3
    generalize upd H3 o (.lst (lit1 (r - 500) ++ lit2)) = H4 at s3 g3 ⊢
    have ss := s1.trans (s2.trans s3)
    refine ⟨b, o, _, c + 1, rfl, b1.at ss, g3, Box.nelst (b1.at (s1.trans s2)) n3, by show 1 ≤ 18; decide, by show 18 ≤ 1000; decide, by omega, fun H' v k hb' hv => ?_⟩
    obtain ⟨d, hd, rd⟩ := lit_mem (by omega) hv
    exact q H' v d ((k1.trans (keptS ss)).trans k) (hb'.le (by omega)) (rd H') hd
end
end K9

set_option maxHeartbeats 400000
/-! Records drawn. -/
namespace K9
open PySem PySem.Spec PyProof.Rows L2 K2

theorem scRecD : FnScope ["_law_box_here", "_law_deep", "_law_found", "_law_turn", "_law_way", "_law_value", "_law_other"] ["_law_box_here", "_law_deep"] (defScope sRec) := ⟨rfl, rfl, rfl, by decide +kernel, rfl, by decide +kernel, by decide +kernel⟩
/-- one more item behind a tuple -/
theorem catA {K : PySem.W.Frag} {H : Hp} {t p : Addr} {vs : List V} {x : V} {Q : VK} (ht : H t = some (.tup vs)) (hp : H p = some (.tup [x])) (len : vs.length ≤ 1000) (q : ∀ H' r, Same H H' → H' r = some (.tup (vs ++ [x])) → Q (.ref r) H') : rCatA K (.ref t) (.ref p) H Q :=
  ⟨t, p, vs, [x], rfl, rfl, SqT.of ht, SqT.of hp, by
    have z : 2000 ≤ sizeLine := by decide
    simp only [List.length_singleton]
    omega, fun e => by subst e; exact q H p (Same.refl H) hp, fun _ e => (nomatch e), fun _ _ r n => q _ r (same_upd n) upd_same⟩
/-- how many draws a record takes -/
def cost : Nat → Nat
  | 0 => 0
  | n + 1 => 22 + 6 * cost n
/-- a value and the heap behind it -/
theorem any_way {t : TE} {σ : L2.St} {H : Hp} {Q : VK} (C : Int → Hp → Prop) (h : ∀ Q' : VK, (∀ d H', C d H' → Q' (.int d) H') → t σ H Q') (hq : ∀ d H', C d H' → Q (.int d) H') : t σ H Q := h Q hq
def PairD (n : Nat) (d : D) : Prop := ∃ s v, d = .tup [.str s, v] ∧ NameD s ∧ WD (RecD n) v
def spRecD (n : Nat) : Sp := fun vs H Q _ => ∃ (b : Addr) (c : Int) (k : Nat), n = k + 1 ∧ vs = [.ref b, .int (k : Int)] ∧ Box c H b ∧ c + cost n ≤ 200000 ∧ ∀ H' v ds, Kept b H H' → Box (c + cost n) H' b → Rep H' v (.tup ds) → RecD n ds → Q v H'
section
variable {P : Program} {w : World} {K : PySem.W.Frag} {mg : Str → Option Value} {base : Heap}
theorem recD_step {n : Nat} {f fT fL fN : Addr} {fd fdT fdL fdN : FuncData} (F : Fun K "_law_record" "_law_record" sRec f fd) (Z : Bare mg) (mT : mg "tuple" = none)
    (kT : PySem.W.keepIn K (.ref fT) = true) (bT : Binds K fdT ["_law_box_here", "_law_many"] []) (gT : mg "_law_take" = some (.ref fT)) (GT : FnOk P w K mg base CX0 1 fT fdT ["_law_box_here", "_law_many"] spTake)
    (kL : PySem.W.keepIn K (.ref fL) = true) (bL : Binds K fdL ["_law_box_here"] []) (gL : mg "_law_literal" = some (.ref fL)) (GL : FnOk P w K mg base CX0 3 fL fdL ["_law_box_here"] spLitD)
    (kN : PySem.W.keepIn K (.ref fN) = true) (bN : Binds K fdN ["_law_box_here"] []) (gN : mg "_law_name" = some (.ref fN)) (GN : FnOk P w K mg base CX0 3 fN fdN ["_law_box_here"] spName)
    (kR : PySem.W.keepIn K (.ref f) = true) (bR : Binds K fd ["_law_box_here", "_law_deep"] []) (gR : mg "_law_record" = some (.ref f)) (GR : FnOk P w K mg base CX0 (3 + n) f fd ["_law_box_here", "_law_deep"] (spRecD n)) :
    FnOk P w K mg base CX0 (3 + (n + 1)) f fd ["_law_box_here", "_law_deep"] (spRecD (n + 1)) := by
  refine F.ok scRecD (fun vs H Q E h => ?_) (fun cdv A outer s H vs Q E hr h => ?_)
  · obtain ⟨b, c, k, _, rfl, _⟩ := h
    rfl
  · obtain ⟨b, c, k, e, rfl, hb, hc, q⟩ := h
    cases e
    have hr1 := hr.mono (show 1 ≤ 3 + n by omega)
    have hr3 := hr.mono (show 3 ≤ 3 + n by omega)
    refine ⟨_, pss_cons (ps_set (i := 2) scRecD.nd rfl (.inl rfl) (pe_tup pa_nil))
      (pss_cons (ps_for PassesOwn.never rfl (pi_range1 (by rfl) Z.range (pa_cons (pe_call GT hr1 (by rfl) gT kT bT .nil pass0 (pa_cons (pv 0) (pa_cons pe_int pa_nil))) pa_nil))
          (pg_name (i := 3) scRecD.nd rfl (Or.inl rfl))
        (pss_cons (ps_set (i := 4) scRecD.nd rfl (.inl rfl) (pe_ifExp (pt_cmpR op_gt (pv 1) pe_int (nomark _)) (pe_call GT hr1 (by rfl) gT kT bT .nil pass0 (pa_cons (pv 0) (pa_cons pe_int pa_nil))) pe_int))
        (pss_cons (ps_set (i := 5) scRecD.nd rfl (.inl rfl) (pe_call GL hr3 (by rfl) gL kL bL .nil pass0 (pa_cons (pv 0) pa_nil)))
        (pss_cons (ps_if (pt_cmpR op_eq (pv 4) pe_int (nomark _))
          (pss_one (ps_set (i := 5) scRecD.nd rfl (.inl rfl) (pe_call GR hr (by rfl) gR kR bR .nil pass0 (pa_cons (pv 0) (pa_cons (pe_op op_sub (pv 1) pe_int) pa_nil))))) pss_nil)
        (pss_cons (ps_if (pt_cmpR op_eq (pv 4) pe_int (nomark _))
          (pss_one (ps_set (i := 5) scRecD.nd rfl (.inl rfl) (pe_callTy call_tuple_of (by rfl) mT (by decide +kernel) (pa_cons
            (pe_lc (own := [("_law_other", 6)]) (g := gName 6) (tt := tYes) rfl scRecD.nd (pi_range1 (by rfl) Z.range (pa_cons (pe_call GT hr1 (by rfl) gT kT bT .nil pass0 (pa_cons (pv 0) (pa_cons pe_int pa_nil))) pa_nil))
              (blkOk_by (N := ["_law_box_here", "_law_deep", "_law_found", "_law_turn", "_law_way", "_law_value", "_law_other"]) (sc := defScope sRec) (by decide +kernel))
              (fun _ _ _ _ _ => pg_name (i := 6) scRecD.nd rfl (Or.inl rfl)) (fun _ _ _ _ _ => pts_nil)
              (fun _ _ _ _ _ => pe_tup (pa_cons (pe_call GT hr1 (by rfl) gT kT bT .nil pass0 (pa_cons (pv 0) (pa_cons pe_int pa_nil)))
                (pa_cons (pe_call GR hr (by rfl) gR kR bR .nil pass0 (pa_cons (pv 0) (pa_cons (pe_op op_sub (pv 1) pe_int) pa_nil))) pa_nil)))) pa_nil)))) pss_nil)
        (pss_one (ps_set (i := 2) scRecD.nd rfl (.inl rfl) (pe_op op_catA (pv 2) (pe_tup (pa_cons (pe_tup (pa_cons (pe_call GN hr3 (by rfl) gN kN bN .nil pass0 (pa_cons (pv 0) pa_nil)) (pa_cons (pv 5) pa_nil))) pa_nil))))))))))
      (pss_one (ps_ret (pv 2)))), ?_⟩
    have ec : cost (n + 1) = 22 + 6 * cost n := rfl
    refine ⟨by show 0 ≤ _; decide, fun t0 n0 => ?_⟩
    obtain ⟨s0, g0, _⟩ := grow (o := .tup []) n0
    generalize upd H t0 (.tup []) = H0 at s0 g0 ⊢
    refine ⟨_, rfl, b, 4, c, rfl, hb.at s0, by decide, by decide, by omega, fun H1 r k1 b1 r0 r4 => ?_⟩
    have kk := (keptS s0).trans k1
    have g1 := (Box.tupK (hb.at s0) k1) _ _ g0
    generalize hM : (7 + 2 * (cost n : Int)) = M
    have hM0 : 7 ≤ M := by omega
    refine ⟨r, rfl, by omega, by omega, for_it walk_range (fun i σ G => ∃ (t : Addr) (vs : List V) (ds : List D) (x3 x4 x5 : Option V), σ = [some (.ref b), some (.int (n : Int)), some (.ref t), x3, x4, x5, none] ∧ Kept b H G ∧ Box (c + 1 + M * i) G b ∧ G t = some (.tup vs) ∧ RepL G vs ds ∧ ds.length = i ∧ ∀ d ∈ ds, PairD n d)
      ⟨t0, [], [], none, none, none, rfl, kk, b1.le (by omega), g1, .nil, rfl, fun d hd => (List.not_mem_nil hd).elim⟩ (fun _ _ _ _ _ => True.intro) ?_ ?_⟩
    · rintro i x σ G G' hi ⟨t, vs, ds, x3, x4, x5, rfl, kG, bG, gt, rs, dl, hp⟩ ⟨rfl, rfl⟩
      have hM3 : M * ((i + 1 : Nat) : Int) ≤ M * 3 := Int.mul_le_mul_of_nonneg_left (by omega) (by omega)
      have hMi : M * ((i + 1 : Nat) : Int) = M * i + M := by
        rw [Int.natCast_add, Int.mul_add]
        show _ + M * 1 = _
        rw [Int.mul_one]
      have vl := rs.len
      -- the end of a turn
      have last : ∀ {x3 x4 : Option V} {v : V} {d : D} {G1 : Hp} {N : Ends}, Kept b G' G1 → Box (c + 1 + M * i + (M - 1)) G1 b → Rep G1 v d → WD (RecD n) d →
          (∀ σ G, (∃ (t : Addr) (vs : List V) (ds : List D) (x3 x4 x5 : Option V), σ = [some (.ref b), some (.int (n : Int)), some (.ref t), x3, x4, x5, none] ∧ Kept b H G ∧ Box (c + 1 + M * ((i + 1 : Nat) : Int)) G b ∧ G t = some (.tup vs) ∧ RepL G vs ds ∧ ds.length = i + 1 ∧ ∀ d ∈ ds, PairD n d) → N.nx σ G) →
          tAsg (tOp (rCatA K) (tVar 2) (tTup (tCons (tTup (tCons (tCall spName [] E0 (tCons (tVar 0) tNil)) (tCons (tVar 5) tNil))) tNil))) (gName 2) N [some (.ref b), some (.int (n : Int)), some (.ref t), x3, x4, some v, none] G1 := by
        intro x3 x4 v d G1 N k1 b1 rv wd hn
        have gt1 := (bG.tupK k1) _ _ gt
        have rs1 := rs.keep (bG.tupK k1)
        refine ⟨_, rfl, _, rfl, b, _, rfl, b1, by omega, fun G2 y k2 b2 hy => ⟨_, rfl, by show 2 ≤ _; decide, fun p1 n1 => ?_⟩⟩
        obtain ⟨s3, g3, _⟩ := grow (o := .tup [.str y, v]) n1
        generalize upd G2 p1 (.tup [.str y, v]) = G3 at s3 g3 ⊢
        refine ⟨by show 1 ≤ _; decide, fun p2 n2 => ?_⟩
        obtain ⟨s4, g4, _⟩ := grow (o := .tup [.ref p1]) n2
        show rCatA K (.ref t) (.ref p2) (upd G3 p2 (.tup [.ref p1])) _
        generalize upd G3 p2 (.tup [.ref p1]) = G4 at s4 g4 ⊢
        have K2 := b1.tupK k2
        refine catA (s4 _ _ (s3 _ _ (K2 _ _ gt1))) g4 (by omega) fun G5 r5 s5 g5 => ?_
        have s25 := s3.trans (s4.trans s5)
        refine hn _ _ ⟨r5, _, ds ++ [.tup [.str (cp y), d]], _, _, _, rfl, ((kG.trans k1).trans k2).trans (keptS s25), (b2.at s25).le (by omega), g5, ?_, by rw [List.length_append, dl]; rfl, fun e he => ?_⟩
        · refine (((rs1.keep K2).keep (TupK.same s25))).snoc (.tup ((s4.trans s5) _ _ g3) (.cons (.str y) (.cons ((rv.keep K2).keep (TupK.same s25)) .nil)))
        · rcases List.mem_append.mp he with he | he
          · exact hp e he
          · rw [List.mem_singleton.mp he]
            exact ⟨_, _, rfl, ⟨y, hy, rfl⟩, wd⟩
      show tIf _ _ _ _ _ _
      refine any_way (fun d G1 => Kept b G' G1 ∧ Box (c + 1 + M * i + 1) G1 b ∧ (d = 2 ∨ d = 3 → 1 ≤ n)) (fun Q' hq => ?_) (fun way G1 hC => ?_)
      · refine ⟨.int (n : Int), rfl, (n : Int), 0, rfl, rfl, _, rfl, ite2 (fun e => ?_) (fun e => ?_)⟩
        · have := of_decide_eq_true e
          exact ⟨_, rfl, b, 4, _, rfl, bG, by decide, by decide, by omega, fun G1 r k1 b1 r0 r1 => hq r G1 ⟨k1, b1, fun _ => by omega⟩⟩
        · exact hq 0 G' ⟨Kept.refl b G', bG.le (by omega), fun h => by omega⟩
      · obtain ⟨kG1, bG1, hway⟩ := hC
        refine ⟨_, rfl, b, _, rfl, bG1, by omega, fun G2 v d k2 b2 rv hd => ?_⟩
        refine ⟨.int way, rfl, rfl, _, rfl, ite2 (fun e => ?_) (fun e => ?_)⟩
        · -- a record
          have ew : way = 2 := by
            have := of_decide_eq_true e
            cases this
            rfl
          have hn := hway (.inl ew)
          obtain ⟨k, rfl⟩ : ∃ k, n = k + 1 := ⟨n - 1, by omega⟩
          have ek : (((k + 1 : Nat) : Int) - 1) = (k : Int) := by omega
          refine ⟨_, rfl, _, rfl, _, _, rfl, rfl, b, _, k, rfl, by show [V.ref b, V.int (((k + 1 : Nat) : Int) - 1)] = _; rw [ek], b2, by omega, fun G3 v3 ds3 k3 b3 r3 h3 => ?_⟩
          subst ew
          refine ⟨.int 2, rfl, rfl, _, rfl, iteF ?_⟩
          refine last ((kG1.trans k2).trans k3) (b3.le (by omega)) r3 (.inr (.inl ⟨ds3, rfl, h3⟩)) ?_
          intro σ G h
          exact h
        · refine ⟨.int way, rfl, rfl, _, rfl, ite2 (fun e => ?_) (fun e => ?_)⟩
          · -- rows
            have ew : way = 3 := by
              have := of_decide_eq_true e
              cases this
              rfl
            have hn := hway (.inr ew)
            obtain ⟨k, rfl⟩ : ∃ k, n = k + 1 := ⟨n - 1, by omega⟩
            have ek : (((k + 1 : Nat) : Int) - 1) = (k : Int) := by omega
            refine ⟨_, rfl, b, 3, _, rfl, b2, by decide, by decide, by omega, fun G3 m k3 b3 m0 m3 => ⟨m, rfl, by omega, by omega, fun L nL => ?_⟩⟩
            have kG3 := (kG1.trans k2).trans k3
            have hC2 : ∀ j : Nat, j < m.toNat → (1 + (cost (k + 1) : Int)) * ((j + 1 : Nat) : Int) = (1 + (cost (k + 1) : Int)) * (j : Int) + (1 + (cost (k + 1) : Int)) ∧ (1 + (cost (k + 1) : Int)) * ((j + 1 : Nat) : Int) ≤ (1 + (cost (k + 1) : Int)) * 2 := fun j hj => by
              refine ⟨?_, Int.mul_le_mul_of_nonneg_left (by omega) (by omega)⟩
              rw [Int.natCast_add, Int.mul_add]
              show _ + _ * 1 = _
              rw [Int.mul_one]
            have nLb : b ≠ L := Ne.symm (b3.nelst nL)
            refine lc_it walk_range (fun j G4 => ∃ (us : List V) (es : List D), Kept b G3 G4 ∧ Box (c + 1 + M * i + 1 + 2 + 1 + (1 + (cost (k + 1) : Int)) * j) G4 b ∧ G4 L = some (.lst us) ∧ RepL G4 us es ∧ es.length = j ∧ ∀ d ∈ es, ∃ (i : Nat) (fs : List D), d = .tup [.int i, .tup fs] ∧ i < 30 ∧ RecD (k + 1) fs)
              ⟨[], [], keptS (same_upd nL), (b3.at (same_upd nL)).le (by omega), upd_same, .nil, rfl, fun d hd => (List.not_mem_nil hd).elim⟩ (fun _ _ _ _ => True.intro) ?_ ?_
            · rintro j x G4 G5 hj ⟨us, es, k4, b4, g4, r4, l4, h4⟩ ⟨rfl, rfl⟩
              obtain ⟨hj1, hj2⟩ := hC2 j hj
              have ul := r4.len
              refine ⟨rfl, _, rfl, b, 30, _, rfl, b4, by decide, by decide, by omega, fun G6 z k6 b6 z0 z1 => ?_⟩
              refine ⟨_, rfl, _, rfl, _, _, rfl, rfl, b, _, k, rfl, by show [V.ref b, V.int (((k + 1 : Nat) : Int) - 1)] = _; rw [ek], b6, by omega, fun G7 v7 ds7 k7 b7 r7 h7 => ⟨by show 2 ≤ _; decide, fun p8 n8 => ?_⟩⟩
              obtain ⟨s8, g8, _⟩ := grow (o := .tup [.int z, v7]) n8
              generalize upd G7 p8 (.tup [.int z, v7]) = G8 at s8 g8 ⊢
              have g4' := s8 _ _ (k7 _ _ (k6 _ _ g4 (Ne.symm nLb)) (Ne.symm nLb))
              have T6 := b4.tupK k6
              have T7 := b6.tupK k7
              obtain ⟨z', rfl⟩ := Int.eq_ofNat_of_zero_le z0
              refine ⟨us, g4', Nat.lt_of_le_of_lt (show us.length ≤ 2 by omega) (by decide), us ++ [.ref p8], es ++ [.tup [.int (z' : Int), .tup ds7]], ?_, ?_, upd_same, ?_, by rw [List.length_append, l4]; rfl, fun d hd => ?_⟩
              · intro a o ha na
                rw [upd_ne (ne_of_none ha nL)]
                exact s8 _ _ (((k4.trans k6).trans k7) _ _ ha na)
              · obtain ⟨o, m', n', e', hh⟩ := b7
                refine ⟨o, m', n', ?_, hh.1, hh.2.1, hh.2.2.1, by omega⟩
                rw [upd_ne nLb]
                exact s8 _ _ e'
              · exact (((((r4.keep T6).keep T7).keep (TupK.same s8))).snoc (.tup g8 (.cons (.int _) (.cons (r7.keep (TupK.same s8)) .nil)))).keep (TupK.lst g4')
              · rcases List.mem_append.mp hd with hd | hd
                · exact h4 d hd
                · rw [List.mem_singleton.mp hd]
                  exact ⟨z', ds7, rfl, by omega, h7⟩
            · rintro G4 ⟨us, es, k4, b4, g4, r4, l4, h4⟩
              refine ⟨L, us, rfl, .inl ⟨SqL.of g4, fun p5 n5 => ?_⟩⟩
              obtain ⟨s5, g5, _⟩ := grow (o := .tup us) n5
              generalize upd G4 p5 (.tup us) = G5 at s5 g5 ⊢
              refine last (((kG3.trans k4).trans (keptS s5))) ((b4.at s5).le ?_) (.tup g5 (r4.keep (TupK.same s5))) (.inr (.inr ⟨es, rfl, by omega, h4⟩)) ?_
              · have : (1 + (cost (k + 1) : Int)) * (m.toNat : Int) ≤ (1 + (cost (k + 1) : Int)) * 2 := Int.mul_le_mul_of_nonneg_left (by omega) (by omega)
                omega
              · intro σ G h
                exact h
          · refine last (kG1.trans k2) (b2.le (by omega)) rv (.inl hd) ?_
            intro σ G h
            exact h
    · rintro σ G ⟨t, vs, ds, x3, x4, x5, rfl, kG, bG, gt, rs, dl, hp⟩
      refine ⟨_, rfl, q G _ ds kG (bG.le ?_) (.tup gt rs) ⟨by omega, hp⟩⟩
      have : M * (r.toNat : Int) ≤ M * 3 := Int.mul_le_mul_of_nonneg_left (by omega) (by omega)
      omega
theorem ok_recD {f fT fL fN : Addr} {fd fdT fdL fdN : FuncData} (F : Fun K "_law_record" "_law_record" sRec f fd) (Z : Bare mg) (mT : mg "tuple" = none)
    (kT : PySem.W.keepIn K (.ref fT) = true) (bT : Binds K fdT ["_law_box_here", "_law_many"] []) (gT : mg "_law_take" = some (.ref fT)) (GT : FnOk P w K mg base CX0 1 fT fdT ["_law_box_here", "_law_many"] spTake)
    (kL : PySem.W.keepIn K (.ref fL) = true) (bL : Binds K fdL ["_law_box_here"] []) (gL : mg "_law_literal" = some (.ref fL)) (GL : FnOk P w K mg base CX0 3 fL fdL ["_law_box_here"] spLitD)
    (kN : PySem.W.keepIn K (.ref fN) = true) (bN : Binds K fdN ["_law_box_here"] []) (gN : mg "_law_name" = some (.ref fN)) (GN : FnOk P w K mg base CX0 3 fN fdN ["_law_box_here"] spName)
    (kR : PySem.W.keepIn K (.ref f) = true) (bR : Binds K fd ["_law_box_here", "_law_deep"] []) (gR : mg "_law_record" = some (.ref f)) :
    ∀ n : Nat, FnOk P w K mg base CX0 (3 + n) f fd ["_law_box_here", "_law_deep"] (spRecD n)
  | 0 => ⟨fun vs H Q E h => by obtain ⟨_, _, _, h, _⟩ := h; exact absurd h (by omega), fun A outer s H args us vs Q E _ _ _ _ h => by obtain ⟨_, _, _, h, _⟩ := h; exact absurd h (by omega)⟩
  | n + 1 => recD_step F Z mT kT bT gT GT kL bL gL GL kN bN gN GN kR bR gR (ok_recD F Z mT kT bT gT GT kL bL gL GL kN bN gN GN kR bR gR n)
end
end K9

set_option maxHeartbeats 400000
/-! Paths drawn. -/
namespace K9
open PySem PySem.Spec PyProof.Rows L2 K2

theorem scLabP : FnScope ["_law_box_here", "_law_most", "_law_found", "_law_turn", "_law_some"] ["_law_box_here", "_law_most"] (defScope sLabP) := ⟨rfl, rfl, rfl, by decide +kernel, rfl, by decide +kernel, by decide +kernel⟩
def spLabP : Sp := fun vs H Q _ => ∃ (b : Addr) (c m : Int), vs = [.ref b, .int m] ∧ 1 ≤ m ∧ m ≤ 5 ∧ Box c H b ∧ c + 22 ≤ 200000 ∧ ∀ H' v p, Kept b H H' → Box (c + 22) H' b → Rep H' v (.tup p) → PathD p → Q v H'
def tens : List V := [.int 10, .int 1000, .int (10 ^ 6)]
theorem part_rep {y1 y2 : Str} {z u : Int} (h1 : y1 ∈ nameS) (h2 : y2 ∈ nameS) (z0 : 0 ≤ z) (z1 : z < 9) (hu : V.int u ∈ tens) {v : V} (hv : v ∈ [V.str y1, .str y2, .int z, .int u]) : ∃ d, PartD d ∧ ∀ H, Rep H v d := by
  simp only [List.mem_cons, List.not_mem_nil, or_false] at hv
  rcases hv with rfl | rfl | rfl | rfl
  · exact ⟨.str (cp y1), .inl ⟨_, rfl, y1, h1, rfl⟩, fun _ => .str y1⟩
  · exact ⟨.str (cp y2), .inl ⟨_, rfl, y2, h2, rfl⟩, fun _ => .str y2⟩
  · obtain ⟨i, rfl⟩ := Int.eq_ofNat_of_zero_le z0
    exact ⟨.int (i : Int), .inr (.inl ⟨i, rfl, by omega⟩), fun _ => .int _⟩
  · simp only [tens, List.mem_cons, List.not_mem_nil, or_false] at hu
    rcases hu with hu | hu | hu <;> cases hu
    · exact ⟨.int ((10 : Nat) : Int), .inr (.inl ⟨10, rfl, by decide⟩), fun _ => .int _⟩
    · exact ⟨.int ((1000 : Nat) : Int), .inr (.inl ⟨1000, rfl, by decide⟩), fun _ => .int _⟩
    · exact ⟨.int ((10 ^ 6 : Nat) : Int), .inr (.inl ⟨10 ^ 6, rfl, by decide⟩), fun _ => .int _⟩
section
variable {P : Program} {w : World} {K : PySem.W.Frag} {mg : Str → Option Value} {base : Heap}
theorem ok_labP {f fT fO fN : Addr} {fd fdT fdO fdN : FuncData} (F : Fun K "_law_label_path" "_law_label_path" sLabP f fd) (Z : Bare mg)
    (kT : PySem.W.keepIn K (.ref fT) = true) (bT : Binds K fdT ["_law_box_here", "_law_many"] []) (gT : mg "_law_take" = some (.ref fT)) (GT : FnOk P w K mg base CX0 1 fT fdT ["_law_box_here", "_law_many"] spTake)
    (kO : PySem.W.keepIn K (.ref fO) = true) (bO : Binds K fdO ["_law_box_here", "_law_some"] []) (gO : mg "_law_of" = some (.ref fO)) (GO : FnOk P w K mg base CX0 2 fO fdO ["_law_box_here", "_law_some"] spOf)
    (kN : PySem.W.keepIn K (.ref fN) = true) (bN : Binds K fdN ["_law_box_here"] []) (gN : mg "_law_name" = some (.ref fN)) (GN : FnOk P w K mg base CX0 3 fN fdN ["_law_box_here"] spName) :
    FnOk P w K mg base CX0 4 f fd ["_law_box_here", "_law_most"] spLabP := by
  refine F.ok scLabP (fun vs H Q E h => ?_) (fun cdv A outer s H vs Q E hr h => ?_)
  · obtain ⟨b, c, m, rfl, _⟩ := h
    rfl
  · obtain ⟨b, c, m, rfl, m1, m5, hb, hc, q⟩ := h
    have hr1 := hr.mono (show 1 ≤ 3 by decide)
    have hr2 := hr.mono (show 2 ≤ 3 by decide)
    refine ⟨_, pss_cons (ps_set (i := 2) scLabP.nd rfl (.inl rfl) (pe_tup (pa_cons (pe_call GN hr (by rfl) gN kN bN .nil pass0 (pa_cons (pv 0) pa_nil)) pa_nil)))
      (pss_cons (ps_for PassesOwn.never rfl (pi_range1 (by rfl) Z.range (pa_cons (pe_call GT hr1 (by rfl) gT kT bT .nil pass0 (pa_cons (pv 0) (pa_cons (pv 1) pa_nil))) pa_nil))
          (pg_name (i := 3) scLabP.nd rfl (Or.inl rfl))
        (pss_cons (ps_set (i := 4) scLabP.nd rfl (.inl rfl) (pe_lst (pa_cons (pe_call GN hr (by rfl) gN kN bN .nil pass0 (pa_cons (pv 0) pa_nil)) (pa_cons (pe_call GN hr (by rfl) gN kN bN .nil pass0 (pa_cons (pv 0) pa_nil))
          (pa_cons (pe_call GT hr1 (by rfl) gT kT bT .nil pass0 (pa_cons (pv 0) (pa_cons pe_int pa_nil))) (pa_cons (pe_call GO hr2 (by rfl) gO kO bO .nil pass0 (pa_cons (pv 0) (pa_cons (pe_lst (pa_cons pe_int (pa_cons pe_int (pa_cons (pe_op op_pow pe_int pe_int) pa_nil)))) pa_nil))) pa_nil))))))
        (pss_one (ps_set (i := 2) scLabP.nd rfl (.inl rfl) (pe_op op_catA (pv 2) (pe_tup (pa_cons (pe_call GO hr2 (by rfl) gO kO bO .nil pass0 (pa_cons (pv 0) (pa_cons (pv 4) pa_nil))) pa_nil)))))))
      (pss_one (ps_ret (pv 2)))), ?_⟩
    refine ⟨_, rfl, b, c, rfl, hb, by omega, fun H1 y k1 b1 hy => ⟨by show 1 ≤ _; decide, fun t0 n0 => ?_⟩⟩
    obtain ⟨s0, g0, _⟩ := grow (o := .tup [.str y]) n0
    generalize upd H1 t0 (.tup [.str y]) = H2 at s0 g0 ⊢
    refine ⟨_, rfl, _, rfl, b, m, _, rfl, b1.at s0, m1, by omega, by omega, fun H3 r k3 b3 r0 r5 => ⟨r, rfl, by omega, by omega, ?_⟩⟩
    have kk := (k1.trans (keptS s0)).trans k3
    have g3 := ((b1.at s0).tupK k3) _ _ g0
    refine for_it walk_range (fun i σ G => ∃ (t : Addr) (vs : List V) (ds : List D) (e : D) (x3 x4 : Option V), σ = [some (.ref b), some (.int m), some (.ref t), x3, x4] ∧ Kept b H G ∧ Box (c + 2 + 5 * i) G b ∧ G t = some (.tup vs) ∧ RepL G vs (e :: ds) ∧ ds.length = i ∧ PartD e ∧ ∀ d ∈ ds, PartD d)
      ⟨t0, _, [], .str (cp y), none, none, rfl, kk, b3.le (by omega), g3, .cons (.str y) .nil, rfl, .inl ⟨_, rfl, y, hy, rfl⟩, fun d hd => (List.not_mem_nil hd).elim⟩ (fun _ _ _ _ _ => True.intro) ?_ ?_
    · rintro i x σ G G' hi ⟨t, vs, ds, e, x3, x4, rfl, kG, bG, gt, rs, dl, he, hp⟩ ⟨rfl, rfl⟩
      have vl := rs.len
      rw [List.length_cons] at vl
      refine ⟨_, rfl, b, _, rfl, bG, by omega, fun G1 y1 k1 b1 h1 => ⟨_, rfl, b, _, rfl, b1, by omega, fun G2 y2 k2 b2 h2 => ⟨_, rfl, b, 9, _, rfl, b2, by decide, by decide, by omega, fun G3 z k3 b3 z0 z1 => ?_⟩⟩⟩
      refine ⟨_, rfl, _, _, rfl, rfl, ⟨by decide, by decide, by decide⟩, by show 3 ≤ _; decide, fun l4 n4 => ?_⟩
      obtain ⟨s4, g4, _⟩ := grow (o := .lst tens) n4
      show spOf [.ref b, .ref l4] (upd G3 l4 (.lst tens)) _ E0
      generalize upd G3 l4 (.lst tens) = G4 at s4 g4 ⊢
      refine ⟨b, l4, _, _, rfl, b3.at s4, g4, b3.nelst n4, by decide, by decide, by omega, fun G5 u k5 b5 hu => ⟨by show 4 ≤ _; decide, fun l6 n6 => ?_⟩⟩
      obtain ⟨u', rfl⟩ : ∃ u', u = .int u' := by
        simp only [tens, List.mem_cons, List.not_mem_nil, or_false] at hu
        rcases hu with hu | hu | hu <;> exact ⟨_, hu⟩
      obtain ⟨s6, g6, _⟩ := grow (o := .lst [.str y1, .str y2, .int z, .int u']) n6
      show gName 4 (.ref l6) _ (upd G5 l6 (.lst [.str y1, .str y2, .int z, .int u'])) _
      generalize upd G5 l6 (.lst [.str y1, .str y2, .int z, .int u']) = G6 at s6 g6 ⊢
      refine ⟨_, rfl, _, rfl, _, rfl, b, l6, _, _, rfl, b5.at s6, g6, b5.nelst n6, by show 1 ≤ 4; decide, by show 4 ≤ _; decide, by omega, fun G7 v k7 b7 hv => ⟨by show 1 ≤ _; decide, fun p8 n8 => ?_⟩⟩
      obtain ⟨d, hd, rd⟩ := part_rep h1 h2 z0 z1 hu hv
      obtain ⟨s8, g8, _⟩ := grow (o := .tup [v]) n8
      show rCatA K (.ref t) (.ref p8) (upd G7 p8 (.tup [v])) _
      generalize upd G7 p8 (.tup [v]) = G8 at s8 g8 ⊢
      have kA : Kept b G' G7 := ((((k1.trans k2).trans k3).trans (keptS s4)).trans k5).trans ((keptS s6).trans k7)
      have T := bG.tupK kA
      refine catA (s8 _ _ (T _ _ gt)) g8 (by omega) fun G9 r9 s9 g9 => ?_
      have ss := s8.trans s9
      refine ⟨r9, _, ds ++ [d], e, _, _, rfl, (kG.trans kA).trans (keptS ss), (b7.at ss).le (by omega), g9, ?_, by rw [List.length_append, dl]; rfl, he, fun d' hd' => ?_⟩
      · exact (((rs.keep T).keep (TupK.same ss))).snoc (rd _)
      · rcases List.mem_append.mp hd' with hd' | hd'
        · exact hp d' hd'
        · rw [List.mem_singleton.mp hd']
          exact hd
    · rintro σ G ⟨t, vs, ds, e, x3, x4, rfl, kG, bG, gt, rs, dl, he, hp⟩
      exact ⟨_, rfl, q G _ _ kG (bG.le (by omega)) (.tup gt rs) ⟨e, ds, rfl, he, hp, by omega⟩⟩
end
end K9

set_option maxHeartbeats 400000
/-! Edits drawn. -/
namespace K9
open PySem PySem.Spec PyProof.Rows L2 K2

theorem scEditD : FnScope ["_law_box_here", "_law_found", "_law_turn", "_law_place", "_law_other", "_law_serial", "_law_index", "_law_some"] ["_law_box_here"] (defScope sEdit) := ⟨rfl, rfl, rfl, by decide +kernel, rfl, by decide +kernel, by decide +kernel⟩
def spEditD : Sp := fun vs H Q _ => ∃ (b : Addr) (c : Int), vs = [.ref b] ∧ Box c H b ∧ c + 23000 ≤ 200000 ∧ ∀ H' v ds, Kept b H H' → Box (c + 23000) H' b → Rep H' v (.tup ds) → (∀ d ∈ ds, StepD d) → ds.length ≤ 4 → Q v H'
def idxs : List V := [.int 0, .int 1, .int 11, .int (10 ^ 8)]
theorem idx_of {v : V} (h : v ∈ idxs) : ∃ i : Nat, v = .int (i : Int) ∧ i ≤ 10 ^ 8 := by
  simp only [idxs, List.mem_cons, List.not_mem_nil, or_false] at h
  rcases h with h | h | h | h
  · exact ⟨0, h, by decide⟩
  · exact ⟨1, h, by decide⟩
  · exact ⟨11, h, by decide⟩
  · exact ⟨10 ^ 8, h, by decide⟩
theorem cost4 : cost 4 = 5698 := rfl
section
variable {P : Program} {w : World} {K : PySem.W.Frag} {mg : Str → Option Value} {base : Heap}
theorem ok_editD {f fT fO fN fL fR fP : Addr} {fd fdT fdO fdN fdL fdR fdP : FuncData} (F : Fun K "_law_edit" "_law_edit" sEdit f fd) (Z : Bare mg)
    (kT : PySem.W.keepIn K (.ref fT) = true) (bT : Binds K fdT ["_law_box_here", "_law_many"] []) (gT : mg "_law_take" = some (.ref fT)) (GT : FnOk P w K mg base CX0 1 fT fdT ["_law_box_here", "_law_many"] spTake)
    (kO : PySem.W.keepIn K (.ref fO) = true) (bO : Binds K fdO ["_law_box_here", "_law_some"] []) (gO : mg "_law_of" = some (.ref fO)) (GO : FnOk P w K mg base CX0 2 fO fdO ["_law_box_here", "_law_some"] spOf)
    (kN : PySem.W.keepIn K (.ref fN) = true) (bN : Binds K fdN ["_law_box_here"] []) (gN : mg "_law_name" = some (.ref fN)) (GN : FnOk P w K mg base CX0 3 fN fdN ["_law_box_here"] spName)
    (kL : PySem.W.keepIn K (.ref fL) = true) (bL : Binds K fdL ["_law_box_here"] []) (gL : mg "_law_literal" = some (.ref fL)) (GL : FnOk P w K mg base CX0 3 fL fdL ["_law_box_here"] spLitD)
    (kP : PySem.W.keepIn K (.ref fP) = true) (bP : Binds K fdP ["_law_box_here", "_law_most"] []) (gP : mg "_law_label_path" = some (.ref fP)) (GP : FnOk P w K mg base CX0 4 fP fdP ["_law_box_here", "_law_most"] spLabP)
    (kR : PySem.W.keepIn K (.ref fR) = true) (bR : Binds K fdR ["_law_box_here", "_law_deep"] []) (gR : mg "_law_record" = some (.ref fR)) (GR : FnOk P w K mg base CX0 7 fR fdR ["_law_box_here", "_law_deep"] (spRecD 4)) :
    FnOk P w K mg base CX0 8 f fd ["_law_box_here"] spEditD := by
  refine F.ok scEditD (fun vs H Q E h => ?_) (fun cdv A outer s H vs Q E hr h => ?_)
  · obtain ⟨b, c, rfl, _⟩ := h
    rfl
  · obtain ⟨b, c, rfl, hb, hc, q⟩ := h
    have hr1 := hr.mono (show 1 ≤ 7 by decide)
    have hr2 := hr.mono (show 2 ≤ 7 by decide)
    have hr3 := hr.mono (show 3 ≤ 7 by decide)
    have hr4 := hr.mono (show 4 ≤ 7 by decide)
    refine ⟨_, pss_cons (ps_set (i := 1) scEditD.nd rfl (.inl rfl) (pe_tup pa_nil))
      (pss_cons (ps_for PassesOwn.never rfl (pi_range1 (by rfl) Z.range (pa_cons (pe_call GT hr1 (by rfl) gT kT bT .nil pass0 (pa_cons (pv 0) (pa_cons pe_int pa_nil))) pa_nil))
          (pg_name (i := 2) scEditD.nd rfl (Or.inl rfl))
        (pss_cons (ps_par (by rfl) scEditD.nd (i := 3) (j := 4) rfl rfl (by decide) rfl rfl
          (pa_cons (pe_tup (pa_cons (pe_call GN hr3 (by rfl) gN kN bN .nil pass0 (pa_cons (pv 0) pa_nil)) (pa_cons (pe_call GP hr4 (by rfl) gP kP bP .nil pass0 (pa_cons (pv 0) (pa_cons pe_int pa_nil))) pa_nil)))
          (pa_cons (pe_tup (pa_cons (pe_call GN hr3 (by rfl) gN kN bN .nil pass0 (pa_cons (pv 0) pa_nil)) (pa_cons (pe_call GP hr4 (by rfl) gP kP bP .nil pass0 (pa_cons (pv 0) (pa_cons pe_int pa_nil))) pa_nil))) pa_nil)) (by rfl))
        (pss_cons (ps_par (by rfl) scEditD.nd (i := 5) (j := 6) rfl rfl (by decide) rfl rfl
          (pa_cons (pe_call GT hr1 (by rfl) gT kT bT .nil pass0 (pa_cons (pv 0) (pa_cons pe_int pa_nil)))
          (pa_cons (pe_call GO hr2 (by rfl) gO kO bO .nil pass0 (pa_cons (pv 0) (pa_cons (pe_lst (pa_cons pe_int (pa_cons pe_int (pa_cons pe_int (pa_cons (pe_op op_pow pe_int pe_int) pa_nil))))) pa_nil))) pa_nil)) (by rfl))
        (pss_cons (ps_set (i := 7) scEditD.nd rfl (.inl rfl) (pe_lst
          (pa_cons (pe_tup (pa_cons pe_str (pa_cons (pv 3) (pa_cons (pe_call GL hr3 (by rfl) gL kL bL .nil pass0 (pa_cons (pv 0) pa_nil)) pa_nil))))
          (pa_cons (pe_tup (pa_cons pe_str (pa_cons (pv 3) (pa_cons (pv 5) pa_nil)))) pa_nil))))
        (pss_cons (ps_expr (pe_bm PySem.F.plainAttrs_list PySem.F.slot_list_append PySem.F.type_list_append mt_append (pv 7) (pa_cons
          (pe_tup (pa_cons pe_str (pa_cons (pv 3) (pa_cons (pv 6) (pa_cons (pv 5) (pa_cons (pe_call GR hr (by rfl) gR kR bR .nil pass0 (pa_cons (pv 0) (pa_cons pe_int pa_nil))) pa_nil)))))) pa_nil)))
        (pss_one (ps_set (i := 1) scEditD.nd rfl (.inl rfl) (pe_op op_catA (pv 1) (pe_tup (pa_cons (pe_call GO hr2 (by rfl) gO kO bO .nil pass0 (pa_cons (pv 0)
          (pa_cons (pe_op op_cat (pv 7) (pe_lst (pa_cons (pe_tup (pa_cons pe_str (pa_cons (pv 3) (pa_cons (pv 5) (pa_cons (pv 4) (pa_cons (pv 6) pa_nil)))))) pa_nil))) pa_nil))) pa_nil))))))))))
      (pss_one (ps_ret (pv 1)))), ?_⟩
    refine ⟨by show 0 ≤ _; decide, fun t0 n0 => ?_⟩
    obtain ⟨s0, g0, _⟩ := grow (o := .tup []) n0
    generalize upd H t0 (.tup []) = H0 at s0 g0 ⊢
    refine ⟨_, rfl, b, 5, c, rfl, hb.at s0, by decide, by decide, by omega, fun H1 r k1 b1 r0 r5 => ?_⟩
    have kk := (keptS s0).trans k1
    have g1 := ((hb.at s0).tupK k1) _ _ g0
    refine ⟨r, rfl, by omega, by omega, for_it walk_range (fun i σ G => ∃ (t : Addr) (vs : List V) (ds : List D) (x2 x3 x4 x5 x6 x7 : Option V), σ = [some (.ref b), some (.ref t), x2, x3, x4, x5, x6, x7] ∧ Kept b H G ∧ Box (c + 1 + 5749 * i) G b ∧ G t = some (.tup vs) ∧ RepL G vs ds ∧ ds.length = i ∧ ∀ d ∈ ds, StepD d)
      ⟨t0, [], [], none, none, none, none, none, none, rfl, kk, b1.le (by omega), g1, .nil, rfl, fun d hd => (List.not_mem_nil hd).elim⟩ (fun _ _ _ _ _ => True.intro) ?_ ?_⟩
    · rintro i x σ G G' hi ⟨t, vs, ds, x2, x3, x4, x5, x6, x7, rfl, kG, bG, gt, rs, dl, hp⟩ ⟨rfl, rfl⟩
      have vl := rs.len
      -- the two places
      refine ⟨_, rfl, b, _, rfl, bG, by omega, fun G1 y1 k1 b1 h1 => ⟨_, rfl, b, _, 5, rfl, by decide, by decide, b1, by omega, fun G2 v2 p2 k2 b2 r2 h2 => ⟨by show 2 ≤ _; decide, fun q3 n3 => ?_⟩⟩⟩
      obtain ⟨s3, g3, _⟩ := grow (o := .tup [.str y1, v2]) n3
      generalize upd G2 q3 (.tup [.str y1, v2]) = G3 at s3 g3 ⊢
      have pl : Rep G3 (.ref q3) (.tup [.str (cp y1), .tup p2]) := .tup g3 (.cons (.str y1) (.cons (r2.keep (TupK.same s3)) .nil))
      have b3 := b2.at s3
      have kA := (k1.trans k2).trans (keptS s3)
      have hpl : PlaceD (.tup [.str (cp y1), .tup p2]) := ⟨_, _, rfl, ⟨y1, h1, rfl⟩, h2⟩
      clear k1 k2 b1 b2 s3 r2
      refine ⟨_, rfl, b, _, rfl, b3, by omega, fun G4 y4 k4 b4 h4 => ⟨_, rfl, b, _, 3, rfl, by decide, by decide, b4, by omega, fun G5 v5 p5 k5 b5 r5 h5 => ⟨by show 2 ≤ _; decide, fun q6 n6 => ?_⟩⟩⟩
      obtain ⟨s6, g6, _⟩ := grow (o := .tup [.str y4, v5]) n6
      generalize upd G5 q6 (.tup [.str y4, v5]) = G6 at s6 g6 ⊢
      have ol : Rep G6 (.ref q6) (.tup [.str (cp y4), .tup p5]) := .tup g6 (.cons (.str y4) (.cons (r5.keep (TupK.same s6)) .nil))
      have b6 := b5.at s6
      have pl := ((pl.keep (b3.tupK k4)).keep (b4.tupK k5)).keep (TupK.same s6)
      have kA := ((kA.trans k4).trans k5).trans (keptS s6)
      have hol : PlaceD (.tup [.str (cp y4), .tup p5]) := ⟨_, _, rfl, ⟨y4, h4, rfl⟩, h5⟩
      clear k4 k5 b3 b4 b5 s6 r5 g3 g6 h2 h5
      refine ⟨_, _, rfl, ?_⟩
      refine ⟨_, rfl, b, 20, _, rfl, b6, by decide, by decide, by omega, fun G7 z k7 b7 z0 z1 => ⟨_, rfl, _, _, rfl, rfl, ⟨by decide, by decide, by decide⟩, by show 4 ≤ _; decide, fun l8 n8 => ?_⟩⟩
      obtain ⟨z', rfl⟩ := Int.eq_ofNat_of_zero_le z0
      obtain ⟨s8, g8, _⟩ := grow (o := .lst idxs) n8
      show spOf [.ref b, .ref l8] (upd G7 l8 (.lst idxs)) _ E0
      generalize upd G7 l8 (.lst idxs) = G8 at s8 g8 ⊢
      refine ⟨b, l8, _, _, rfl, b7.at s8, g8, b7.nelst n8, by decide, by decide, by omega, fun G9 v9 k9 b9 h9 => ⟨_, _, rfl, ?_⟩⟩
      obtain ⟨i9, rfl, l9⟩ := idx_of h9
      have T := b6.tupK (k7.trans ((keptS s8).trans k9))
      have pl := pl.keep T
      have ol := ol.keep T
      have kA := kA.trans (k7.trans ((keptS s8).trans k9))
      clear k7 b6 b7 s8 k9 T g8
      -- set, take
      refine ⟨_, rfl, _, rfl, b, _, rfl, b9, by omega, fun G10 v10 d10 k10 b10 r10 h10 => ⟨by show 3 ≤ _; decide, fun q11 n11 => ?_⟩⟩
      have pl := pl.keep (b9.tupK k10)
      have ol := ol.keep (b9.tupK k10)
      obtain ⟨s11, g11, _⟩ := grow (o := .tup [.str "set", .ref q3, v10]) n11
      generalize upd G10 q11 (.tup [.str "set", .ref q3, v10]) = G11 at s11 g11 ⊢
      have w1 : Rep G11 (.ref q11) (.tup [.str (txt "set"), .tup [.str (cp y1), .tup p2], d10]) := .tup g11 (.cons (Rep.str' (by decide +kernel)) (.cons (pl.keep (TupK.same s11)) (.cons (r10.keep (TupK.same s11)) .nil)))
      refine ⟨_, rfl, _, rfl, by show 3 ≤ _; decide, fun q12 n12 => ?_⟩
      obtain ⟨s12, g12, _⟩ := grow (o := .tup [.str "take", .ref q3, .int (z' : Int)]) n12
      show tNil _ (upd G11 q12 (.tup [.str "take", .ref q3, .int (z' : Int)])) _
      generalize upd G11 q12 (.tup [.str "take", .ref q3, .int (z' : Int)]) = G12 at s12 g12 ⊢
      have sA := s11.trans s12
      have pl := pl.keep (TupK.same sA)
      have ol := ol.keep (TupK.same sA)
      have w1 := w1.keep (TupK.same s12)
      have w2 : Rep G12 (.ref q12) (.tup [.str (txt "take"), .tup [.str (cp y1), .tup p2], .int (z' : Int)]) := .tup g12 (.cons (Rep.str' (by decide +kernel)) (.cons pl (.cons (.int _) .nil)))
      have b12 := b10.at sA
      have kA := (kA.trans k10).trans (keptS sA)
      clear k10 b9 b10 sA s11 s12 g11 g12 r10
      refine ⟨by show 2 ≤ _; decide, fun l13 n13 => ?_⟩
      have nl : l13 ≠ b := b12.nelst n13
      have hn : ∀ o, G' l13 ≠ some o := fun o e => by
        rw [kA _ _ e nl] at n13
        cases n13
      obtain ⟨s13, g13, _⟩ := grow (o := .lst [.ref q11, .ref q12]) n13
      show gName 7 (.ref l13) _ (upd G12 l13 (.lst [.ref q11, .ref q12])) _
      generalize upd G12 l13 (.lst [.ref q11, .ref q12]) = G13 at s13 g13 ⊢
      have pl := pl.keep (TupK.same s13)
      have ol := ol.keep (TupK.same s13)
      have w1 := w1.keep (TupK.same s13)
      have w2 := w2.keep (TupK.same s13)
      have b13 := b12.at s13
      have kA := kA.trans (keptS s13)
      clear b12 s13
      -- put
      refine ⟨.ref l13, rfl, .inl ⟨rfl, _, SqL.of g13⟩, _, rfl, _, rfl, _, rfl, _, rfl, b, _, 3, rfl, rfl, b13, by rw [cost4]; omega, fun G14 v14 d14 k14 b14 r14 h14 => ⟨by show 5 ≤ _; decide, fun q15 n15 => ?_⟩⟩
      have T := b13.tupK k14
      have g14 := k14 _ _ g13 nl
      obtain ⟨s15, g15, _⟩ := grow (o := .tup [.str "put", .ref q3, .int (i9 : Int), .int (z' : Int), v14]) n15
      show tNil _ (upd G14 q15 (.tup [.str "put", .ref q3, .int (i9 : Int), .int (z' : Int), v14])) _
      generalize upd G14 q15 (.tup [.str "put", .ref q3, .int (i9 : Int), .int (z' : Int), v14]) = G15 at s15 g15 ⊢
      have pl := (pl.keep T).keep (TupK.same s15)
      have ol := (ol.keep T).keep (TupK.same s15)
      have w1 := (w1.keep T).keep (TupK.same s15)
      have w2 := (w2.keep T).keep (TupK.same s15)
      have w3 : Rep G15 (.ref q15) (.tup [.str (txt "put"), .tup [.str (cp y1), .tup p2], .int (i9 : Int), .int (z' : Int), .tup d14]) := .tup g15 (.cons (Rep.str' (by decide +kernel)) (.cons pl (.cons (.int _) (.cons (.int _) (.cons (r14.keep (TupK.same s15)) .nil)))))
      have b15 := b14.at s15
      have kA := (kA.trans k14).trans (keptS s15)
      have g15' := s15 _ _ g14
      rw [cost4] at b15
      clear T k14 b13 b14 s15 g15 r14 g13 g14
      refine ⟨l13, _, .ref q15, rfl, rfl, g15', by show 2 < _; decide, ?_⟩
      have g16 : upd G15 l13 (.lst ([.ref q11, .ref q12] ++ [.ref q15])) l13 = some (.lst [.ref q11, .ref q12, .ref q15]) := upd_same
      have T : TupK G15 (upd G15 l13 (.lst ([.ref q11, .ref q12] ++ [.ref q15]))) := TupK.lst g15'
      have b16 : Box (c + 1 + 5749 * i + 1 + 22 + 1 + 22 + 1 + 1 + 2 + 5698) (upd G15 l13 (.lst ([.ref q11, .ref q12] ++ [.ref q15]))) b := by
        obtain ⟨o, m', n', e', h1, h2, h3, h4⟩ := b15
        exact ⟨o, m', n', by rw [upd_ne (Ne.symm nl)]; exact e', h1, h2, h3, by omega⟩
      have kA : Kept b G' (upd G15 l13 (.lst ([.ref q11, .ref q12] ++ [.ref q15]))) := fun a o ha na => by
        have ne : a ≠ l13 := by
          rintro rfl
          exact hn o ha
        rw [upd_ne ne]
        exact kA _ _ ha na
      have pl := pl.keep T
      have ol := ol.keep T
      have w1 := w1.keep T
      have w2 := w2.keep T
      have w3 := w3.keep T
      clear T g15' b15
      generalize upd G15 l13 (.lst ([.ref q11, .ref q12] ++ [.ref q15])) = G16 at g16 b16 kA pl ol w1 w2 w3 ⊢
      -- carry
      refine ⟨_, rfl, _, rfl, _, rfl, _, rfl, _, rfl, _, rfl, _, rfl, by show 5 ≤ _; decide, fun q17 n17 => ?_⟩
      obtain ⟨s17, g17, _⟩ := grow (o := .tup [.str "carry", .ref q3, .int (z' : Int), .ref q6, .int (i9 : Int)]) n17
      show tNil _ (upd G16 q17 (.tup [.str "carry", .ref q3, .int (z' : Int), .ref q6, .int (i9 : Int)])) _
      generalize upd G16 q17 (.tup [.str "carry", .ref q3, .int (z' : Int), .ref q6, .int (i9 : Int)]) = G17 at s17 g17 ⊢
      have pl := pl.keep (TupK.same s17)
      have ol := ol.keep (TupK.same s17)
      have w4 : Rep G17 (.ref q17) (.tup [.str (txt "carry"), .tup [.str (cp y1), .tup p2], .int (z' : Int), .tup [.str (cp y4), .tup p5], .int (i9 : Int)]) := .tup g17 (.cons (Rep.str' (by decide +kernel)) (.cons pl (.cons (.int _) (.cons ol (.cons (.int _) .nil)))))
      refine ⟨by show 1 ≤ _; decide, fun l18 n18 => ?_⟩
      obtain ⟨s18, g18, _⟩ := grow (o := .lst [.ref q17]) n18
      show rCat _ (.ref l18) (upd G17 l18 (.lst [.ref q17])) _
      generalize upd G17 l18 (.lst [.ref q17]) = G18 at s18 g18 ⊢
      refine ⟨l13, l18, _, _, rfl, rfl, s18 _ _ (s17 _ _ g16), g18, by show 4 ≤ _; decide, fun l19 n19 => ?_⟩
      obtain ⟨s19, g19, _⟩ := grow (o := .lst [.ref q11, .ref q12, .ref q15, .ref q17]) n19
      show tNil _ (upd G18 l19 (.lst [.ref q11, .ref q12, .ref q15, .ref q17])) _
      generalize upd G18 l19 (.lst [.ref q11, .ref q12, .ref q15, .ref q17]) = G19 at s19 g19 ⊢
      have s89 := s18.trans s19
      have s79 := s17.trans s89
      have b18 := b16.at (s17.trans s18)
      refine ⟨b, l19, _, _, rfl, b16.at s79, g19, b18.nelst n19, by show 1 ≤ 4; decide, by show 4 ≤ _; decide, by omega, fun G20 v20 k20 b20 h20 => ⟨by show 1 ≤ _; decide, fun q21 n21 => ?_⟩⟩
      have good : ∃ d, StepD d ∧ Rep G19 v20 d := by
        simp only [List.mem_cons, List.not_mem_nil, or_false] at h20
        rcases h20 with rfl | rfl | rfl | rfl
        · exact ⟨_, .set _ _ hpl h10, w1.keep (TupK.same s79)⟩
        · exact ⟨_, .take _ _ hpl (by omega), w2.keep (TupK.same s79)⟩
        · exact ⟨_, .put _ _ _ _ hpl l9 (by omega) h14, w3.keep (TupK.same s79)⟩
        · exact ⟨_, .carry _ _ _ _ hpl hol (by omega) l9, w4.keep (TupK.same s89)⟩
      obtain ⟨d, hd, rd⟩ := good
      have kB := (kA.trans (keptS s79)).trans k20
      have T := bG.tupK kB
      have rd := rd.keep ((b16.at s79).tupK k20)
      clear w1 w2 w3 w4 pl ol
      obtain ⟨s21, g21, _⟩ := grow (o := .tup [v20]) n21
      show rCatA K (.ref t) (.ref q21) (upd G20 q21 (.tup [v20])) _
      generalize upd G20 q21 (.tup [v20]) = G21 at s21 g21 ⊢
      refine catA (s21 _ _ (T _ _ gt)) g21 (by omega) fun G22 r22 s22 g22 => ?_
      have ss := s21.trans s22
      refine ⟨r22, _, ds ++ [d], _, _, _, _, _, _, rfl, (kG.trans kB).trans (keptS ss), (b20.at ss).le (by omega), g22, ?_, by rw [List.length_append, dl]; rfl, fun d' hd' => ?_⟩
      · exact (((rs.keep T).keep (TupK.same ss))).snoc (rd.keep (TupK.same ss))
      · rcases List.mem_append.mp hd' with hd' | hd'
        · exact hp d' hd'
        · rw [List.mem_singleton.mp hd']
          exact hd
    · rintro σ G ⟨t, vs, ds, x2, x3, x4, x5, x6, x7, rfl, kG, bG, gt, rs, dl, hp⟩
      exact ⟨_, rfl, q G _ ds kG (bG.le (by omega)) (.tup gt rs) hp (by omega)⟩
end
end K9

set_option maxHeartbeats 400000
/-! a < b for tuples: nothing behind the first place that differs is looked at. -/
namespace NL
open PySem PyProof.Rows PySem.SeqAt
open AutoSeq1 (wpAny_loadPart')
open MeetsSeq MeetsSeq2 MeetsSeq3 SeqRoads2

/-- pairs of items side by side give k; fin where none differs -/
inductive Fst (A : Around) (s : Shared) (fin : Bool) : List (Value × Value) → Bool → Prop
  | nil : Fst A s fin [] fin
  | same {p q : Value} {r : List (Value × Value)} {k : Bool} : EqAt A s p q true → Fst A s fin r k → Fst A s fin ((p, q) :: r) k
  | diff {p q : Value} {r : List (Value × Value)} {k : Bool} : EqAt A s p q false → RcLt A s p q k → Fst A s fin ((p, q) :: r) k


theorem lt_meets (l b : Addr) (items items2 : Array Value) (n n2 : Nat) (dd dd2 : Option Addr) (sl sl2 : Array (Option Value)) (k : Bool) :
    Meets (Builtin.«tuple.__lt__» ⟨[.ref l, .ref b], []⟩)
      (fun A R s => s.heap.get? l = some { cls := .type "tuple", dict := dd, data := .seq items n, slots := sl } ∧ s.heap.get? b = some { cls := .type "tuple", dict := dd2, data := .seq items2 n2, slots := sl2 } ∧
        Fst A.in1 s (decide (items.size < items2.size)) (items.toList.zip items2.toList) k ∧ R (.ok (.ret (.bool k))) s) := by
  refine .of_wp fun prog w A R s h => ?_
  obtain ⟨hp, g, d, tk, os⟩ := s
  obtain ⟨hl, hb, hf, hR⟩ := h
  have f2 := AutoSeq1.sub_tuple_tuple
  wp_walk using wpAny_loadPart' hl, wpAny_loadPart' hb, wpAny_forIn_list _ (fun rest c s' => c.1 = none ∧ s' = ⟨hp, g, d, tk, os⟩ ∧ Fst A.in1 ⟨hp, g, d, tk, os⟩ (decide (items.size < items2.size)) rest k) _
  case turn =>
    rintro ⟨y, x⟩ rest c s' ⟨hc, rfl, hf⟩
    cases hf with
    | same he hr =>
      refine wpAny_bind (he prog w _ _ ?_)
      wp_walk
      exact ⟨rfl, rfl, hr⟩
    | diff he hr =>
      refine wpAny_bind (he prog w _ _ ?_)
      unfold RcLt at hr
      generalize richCompare .Lt y x = m at hr ⊢
      wp_walk
      refine hr prog w _ _ ?_
      wp_walk
      exact ⟨_, rfl, hR⟩
  case fin =>
    rintro ⟨c1, c2⟩ s' ⟨hc, rfl, hf⟩
    simp only at hc
    subst hc
    cases hf
    wp_walk
    exact ⟨_, rfl, by simpa [Builtin.Tuple.tupleCompareSizes] using hR⟩
  case h => exact ⟨rfl, rfl, hf⟩
theorem lt_tups {A : Around} {s : Shared} {l b : Addr} {items items2 : Array Value} {k : Bool} (hl : s.heap.IsTuple l items) (hb : s.heap.IsTuple b items2) (hu : A.units < cLine)
    (h : Fst A.in1 s (decide (items.size < items2.size)) (items.toList.zip items2.toList) k) : RcLt A s (.ref l) (.ref b) k := fun prog w E Q q => by
  obtain ⟨⟨c1, dd, data, sl⟩, ho, hc, n, hd⟩ := id hl
  obtain ⟨⟨c2, dd2, data2, sl2⟩, ho2, hc2, n2, hd2⟩ := id hb
  simp only at hc hd hc2 hd2
  subst hc hd hc2 hd2
  exact richCompare_meets_room (op := .Lt) ⟨_, ho, rfl⟩ ⟨_, ho2, rfl⟩ F.slot_tuple_lt F.entry_tuple_lt (F.args_tuple_lt_2 _ _) (lt_meets l b items items2 n n2 dd dd2 sl sl2 k)
    ⟨ho, ho2, h, show Value.bool k ≠ Value.notImplemented ∧ Q (.bool k) s from ⟨(fun x => nomatch x), q⟩⟩ hu
end NL

set_option maxHeartbeats 400000
/-! The order of tuples whose parts can be told apart. -/
namespace K9
open PySem PySem.Spec PySem.SeqAt PyProof.Rows L2 K2

/-! ### a row of signs for a datum -/
mutual
def row : D → List Nat
  | .int i => [(i.toNat + 2)]
  | .str s => s.map (· + 2) ++ [1]
  | .tup ds => 1 :: rows ds
def rows : List D → List Nat
  | [] => [0]
  | d :: r => row d ++ rows r
end
/-- the first place that differs decides; n deep -/
inductive Cmpb : Nat → List D → List D → Prop
  | nil1 {n : Nat} {d : D} {r : List D} : Cmpb n [] (d :: r)
  | nil2 {n : Nat} {d : D} {r : List D} : Cmpb n (d :: r) []
  | same {n : Nat} {a : D} {r t : List D} : Cmpb n r t → Cmpb n (a :: r) (a :: t)
  | nums {n i j : Nat} {r t : List D} : i ≠ j → Cmpb n (.int (i : Int) :: r) (.int (j : Int) :: t)
  | texts {n : Nat} {a b : List Nat} {r t : List D} : a ≠ b → Cmpb n (.str a :: r) (.str b :: t)
  | tups {n : Nat} {x y r t : List D} : Cmpb n x y → Cmpb (n + 1) (.tup x :: r) (.tup y :: t)
theorem Cmpb.symm {n : Nat} {x y : List D} (h : Cmpb n x y) : Cmpb n y x := by
  induction h with
  | nil1 => exact .nil2
  | nil2 => exact .nil1
  | same _ ih => exact .same ih
  | nums h => exact .nums (Ne.symm h)
  | texts h => exact .texts (Ne.symm h)
  | tups _ ih => exact .tups ih
theorem Cmpb.ne {n : Nat} {x y : List D} (h : Cmpb n x y) : x ≠ y := by
  induction h with
  | nil1 => exact fun e => nomatch e
  | nil2 => exact fun e => nomatch e
  | same _ ih => exact fun e => ih (List.cons.inj e).2
  | nums h => exact fun e => h (by have := D.int.inj (List.cons.inj e).1; omega)
  | texts h => exact fun e => h (D.str.inj (List.cons.inj e).1)
  | tups _ ih => exact fun e => ih (D.tup.inj (List.cons.inj e).1)
theorem ltL_pre : ∀ (p a b : List Nat), ltL (p ++ a) (p ++ b) = ltL a b
  | [], _, _ => rfl
  | x :: p, a, b => by
    rw [List.cons_append, List.cons_append, ltL, if_pos rfl]
    exact ltL_pre p a b
theorem ltL_strs : ∀ {a b : List Nat}, a ≠ b → ∀ p q : List Nat, ltL (a.map (· + 2) ++ [1] ++ p) (b.map (· + 2) ++ [1] ++ q) = ltL a b
  | [], [], h, _, _ => absurd rfl h
  | [], y :: b, _, p, q => by
    show ltL (1 :: p) ((y + 2) :: _) = _
    rw [show ltL [] (y :: b) = true from rfl, ltL, if_neg (by omega)]
    exact decide_eq_true (by omega)
  | x :: a, [], _, p, q => by
    show ltL ((x + 2) :: _) (1 :: q) = _
    rw [show ltL (x :: a) [] = false from rfl, ltL, if_neg (by omega)]
    exact decide_eq_false (by omega)
  | x :: a, y :: b, h, p, q => by
    show ltL ((x + 2) :: (a.map (· + 2) ++ [1] ++ p)) ((y + 2) :: (b.map (· + 2) ++ [1] ++ q)) = ltL (x :: a) (y :: b)
    rw [ltL, ltL]
    by_cases e : x = y
    · subst e
      rw [if_pos rfl, if_pos rfl]
      exact ltL_strs (fun z => h (by rw [z])) p q
    · rw [if_neg (by omega), if_neg e]
      by_cases z : x < y
      · rw [decide_eq_true z, decide_eq_true (by omega)]
      · rw [decide_eq_false z, decide_eq_false (by omega)]
theorem row_pos (d : D) : ∃ c r, row d = (c + 1) :: r := by
  cases d with
  | int i => exact ⟨i.toNat + 1, [], rfl⟩
  | str s =>
    cases s with
    | nil => exact ⟨0, [], rfl⟩
    | cons a r => exact ⟨a + 1, _, rfl⟩
  | tup ds => exact ⟨0, rows ds, by rw [row]⟩
theorem Cmpb.rows {n : Nat} {x y : List D} (h : Cmpb n x y) : ∀ p q : List Nat, ltL (rows x ++ p) (rows y ++ q) = ltL (rows x) (rows y) := by
  induction h with
  | nil1 =>
    rename_i d r
    intro p q
    obtain ⟨c, t, e⟩ := row_pos d
    rw [K9.rows, K9.rows, e]
    show ltL (0 :: p) ((c + 1) :: _) = ltL (0 :: []) ((c + 1) :: _)
    rw [ltL, ltL, if_neg (by omega), if_neg (by omega)]
  | nil2 =>
    rename_i d r
    intro p q
    obtain ⟨c, t, e⟩ := row_pos d
    rw [K9.rows, K9.rows, e]
    show ltL ((c + 1) :: _) (0 :: q) = ltL ((c + 1) :: _) (0 :: [])
    rw [ltL, ltL, if_neg (by omega), if_neg (by omega)]
  | same _ ih =>
    rename_i a r t _
    intro p q
    rw [K9.rows, K9.rows, List.append_assoc, List.append_assoc, ltL_pre, ltL_pre]
    exact ih p q
  | nums h =>
    rename_i i j r t
    intro p q
    rw [K9.rows, K9.rows, row, row]
    show ltL ((i + 2) :: _) ((j + 2) :: _) = ltL ((i + 2) :: _) ((j + 2) :: _)
    rw [ltL, ltL, if_neg (by omega), if_neg (by omega)]
  | texts h =>
    rename_i a b r t
    intro p q
    rw [K9.rows, K9.rows, row, row, List.append_assoc _ (K9.rows r), List.append_assoc _ (K9.rows t), ltL_strs h, ltL_strs h]
  | tups _ ih =>
    rename_i x y r t _
    intro p q
    rw [K9.rows, K9.rows, row, row]
    show ltL (1 :: (K9.rows x ++ K9.rows r ++ p)) (1 :: (K9.rows y ++ K9.rows t ++ q)) = ltL (1 :: (K9.rows x ++ K9.rows r)) (1 :: (K9.rows y ++ K9.rows t))
    rw [ltL, ltL, if_pos rfl, if_pos rfl, List.append_assoc, List.append_assoc, ih, ih]
theorem ltL_asym (x y : List Nat) (h : ltL x y = true) : ltL y x = false := by
  rw [← ltL_is] at h ⊢
  have := of_decide_eq_true h
  exact decide_eq_false (List.lt_asymm this)
theorem ltL_tr (x y z : List Nat) (h1 : ltL y x = false) (h2 : ltL z y = false) : ltL z x = false := by
  rw [← ltL_is] at h1 h2 ⊢
  have a := of_decide_eq_false h1
  have b := of_decide_eq_false h2
  exact decide_eq_false (List.not_lt.mpr (List.le_trans (List.not_lt.mp a) (List.not_lt.mp b)))
theorem ltL_self (x : List Nat) : ltL x x = false := by
  cases e : ltL x x with
  | false => rfl
  | true => exact absurd (ltL_asym x x e) (by rw [e]; exact fun z => nomatch z)
theorem swo_rows (f : Value → List Nat) : SrtO.Swo fun v u => ltL (f v) (f u) := ⟨fun x y h => ltL_asym _ _ h, fun x y z h1 h2 => ltL_tr _ _ _ h1 h2⟩

/-! ### what the model's == and < say -/
section
variable {s : Shared}
theorem eqv_same (d : D) : PyData.eqv (dat d) (dat d) = true := by rw [eqv_dat]; exact beq_self d
theorem eqv_no {a b : D} (h : a ≠ b) : PyData.eqv (dat a) (dat b) = false := by rw [eqv_dat]; exact beq_false h
theorem rows_nums {i j : Nat} {r t : List D} (h : i ≠ j) : ltL (rows (.int (i : Int) :: r)) (rows (.int (j : Int) :: t)) = decide ((i : Int) < (j : Int)) := by
  rw [rows, rows, row, row]
  show ltL ((i + 2) :: _) ((j + 2) :: _) = _
  rw [ltL, if_neg (by omega)]
  by_cases z : i < j
  · rw [decide_eq_true (by omega), decide_eq_true (by omega)]
  · rw [decide_eq_false (by omega), decide_eq_false (by omega)]
theorem rows_texts {a b : List Nat} {r t : List D} (h : a ≠ b) : ltL (rows (.str a :: r)) (rows (.str b :: t)) = decide (a < b) := by
  rw [rows, rows, row, row, ltL_strs h, ltL_is]
theorem rows_same {a : D} {r t : List D} : ltL (rows (a :: r)) (rows (a :: t)) = ltL (rows r) (rows t) := by rw [rows, rows, ltL_pre]
theorem rows_tups {n : Nat} {x y r t : List D} (h : Cmpb n x y) : ltL (rows (.tup x :: r)) (rows (.tup y :: t)) = ltL (rows x) (rows y) := by
  rw [rows, rows, row, row]
  show ltL (1 :: (rows x ++ rows r)) (1 :: (rows y ++ rows t)) = _
  rw [ltL, if_pos rfl, h.rows]
theorem lt_int {A : Around} {i j : Int} {v u : Value} {as bs : List Addr} (hv : Reads s.heap v (dat (.int i)) as) (hu : Reads s.heap u (dat (.int j)) bs) : RcLt A s v u (decide (i < j)) := by
  rw [dat] at hv hu
  cases hv
  cases hu
  exact fun prog w E Q q => PySem.P.lt_int q
theorem lt_str {A : Around} {a b : List Nat} {v u : Value} {as bs : List Addr} (hv : Reads s.heap v (dat (.str a)) as) (hu : Reads s.heap u (dat (.str b)) bs) : RcLt A s v u (decide (a < b)) := by
  rw [dat] at hv hu
  cases hv
  cases hu
  exact fun prog w E Q q => PySem.P.lt_str q
theorem lay_cons {d : D} {r : List D} (h : PyData.canLayAll0 (dats (d :: r)) = true) : (dat d).canLay0 = true ∧ PyData.canLayAll0 (dats r) = true := by
  rw [dats, PyData.canLayAll0, Bool.and_eq_true] at h
  exact h
theorem dep_cons {d : D} {r : List D} {n : Nat} (h : PyData.depthAll (dats (d :: r)) ≤ n) : (dat d).depth ≤ n ∧ PyData.depthAll (dats r) ≤ n := by
  rw [dats, PyData.depthAll] at h
  omega
theorem reads_tup {hp : Heap} {v : Value} {ds : List D} {as : List Addr} (h : Reads hp v (dat (.tup ds)) as) : ∃ (a : Addr) (its : Array Value) (bs : List Addr), v = .ref a ∧ hp.IsTuple a its ∧ ReadsAll hp its.toList (dats ds) bs := by
  rw [dat] at h
  cases h with
  | tuple h1 h2 h3 h4 => exact ⟨_, _, _, rfl, ⟨_, h1, h2, _, h3⟩, h4⟩
theorem fst_of {n : Nat} {x y : List D} (h : Cmpb n x y) : ∀ {A : Around} {vs us : List Value} {as bs : List Addr}, ReadsAll s.heap vs (dats x) as → ReadsAll s.heap us (dats y) bs → PyData.canLayAll0 (dats x) = true → PyData.canLayAll0 (dats y) = true →
    PyData.depthAll (dats x) ≤ 16 → PyData.depthAll (dats y) ≤ 16 → A.units + n + 20 < cLine → NL.Fst A s (decide (vs.length < us.length)) (vs.zip us) (ltL (rows x) (rows y)) := by
  induction h with
  | nil1 =>
    rename_i d r
    intro A vs us as bs hv hu _ _ _ _ _
    rw [dats] at hu
    rw [show dats [] = [] from rfl] at hv
    cases hv
    cases hu
    obtain ⟨c, t, e⟩ := row_pos d
    have : ltL (rows []) (rows (d :: r)) = true := by
      rw [rows, rows, e]
      show ltL (0 :: []) ((c + 1) :: _) = true
      rw [ltL, if_neg (by omega)]
      exact decide_eq_true (by omega)
    rw [this]
    exact .nil
  | nil2 =>
    rename_i d r
    intro A vs us as bs hv hu _ _ _ _ _
    rw [dats] at hv
    rw [show dats [] = [] from rfl] at hu
    cases hv
    cases hu
    obtain ⟨c, t, e⟩ := row_pos d
    have : ltL (rows (d :: r)) (rows []) = false := by
      rw [rows, rows, e]
      show ltL ((c + 1) :: _) (0 :: []) = false
      rw [ltL, if_neg (by omega)]
      exact decide_eq_false (by omega)
    rw [this]
    exact .nil
  | same _ ih =>
    rename_i a r t _
    intro A vs us as bs hv hu l1 l2 d1 d2 un
    obtain ⟨la, lr⟩ := lay_cons l1
    obtain ⟨_, lt⟩ := lay_cons l2
    obtain ⟨da, dr⟩ := dep_cons d1
    obtain ⟨_, dt⟩ := dep_cons d2
    rw [dats] at hv hu
    cases hv with
    | cons h1 h2 =>
      cases hu with
      | cons k1 k2 =>
        rw [rows_same]
        have e := eqAt_reads _ _ A s _ _ _ _ h1 k1 la la (by omega)
        rw [eqv_same] at e
        have ih := ih (A := A) h2 k2 lr lt dr dt un
        refine .same e ?_
        have e2 : ∀ m n : Nat, decide (m + 1 < n + 1) = decide (m < n) := fun m n => by simp [Nat.succ_lt_succ_iff]
        rw [List.length_cons, List.length_cons, e2]
        exact ih
  | nums h =>
    rename_i i j r t
    intro A vs us as bs hv hu l1 l2 d1 d2 un
    obtain ⟨la, lr⟩ := lay_cons l1
    obtain ⟨lb, lt⟩ := lay_cons l2
    obtain ⟨da, dr⟩ := dep_cons d1
    rw [dats] at hv hu
    cases hv with
    | cons h1 h2 =>
      cases hu with
      | cons k1 k2 =>
        rw [rows_nums h]
        have e := eqAt_reads _ _ A s _ _ _ _ h1 k1 la lb (by omega)
        rw [eqv_no (fun z => h (by cases z; rfl))] at e
        exact .diff e (lt_int h1 k1)
  | texts h =>
    rename_i a b r t
    intro A vs us as bs hv hu l1 l2 d1 d2 un
    obtain ⟨la, lr⟩ := lay_cons l1
    obtain ⟨lb, lt⟩ := lay_cons l2
    obtain ⟨da, dr⟩ := dep_cons d1
    rw [dats] at hv hu
    cases hv with
    | cons h1 h2 =>
      cases hu with
      | cons k1 k2 =>
        rw [rows_texts h]
        have e := eqAt_reads _ _ A s _ _ _ _ h1 k1 la lb (by omega)
        rw [eqv_no (fun z => h (by cases z; rfl))] at e
        exact .diff e (lt_str h1 k1)
  | tups hc ih =>
    rename_i n x y r t
    intro A vs us as bs hv hu l1 l2 d1 d2 un
    obtain ⟨la, lr⟩ := lay_cons l1
    obtain ⟨lb, lt⟩ := lay_cons l2
    obtain ⟨da, dr⟩ := dep_cons d1
    obtain ⟨db, dt⟩ := dep_cons d2
    rw [dats] at hv hu
    cases hv with
    | cons h1 h2 =>
      cases hu with
      | cons k1 k2 =>
        rw [rows_tups hc]
        have e := eqAt_reads _ _ A s _ _ _ _ h1 k1 la lb (by omega)
        have ne : D.tup x ≠ D.tup y := fun z => by
          have z := D.tup.inj z
          subst z
          exact Cmpb.ne hc rfl
        rw [eqv_no ne] at e
        obtain ⟨a, ia, as', rfl, ta, ra⟩ := reads_tup h1
        obtain ⟨b, ib, bs', rfl, tb, rb⟩ := reads_tup k1
        refine .diff e (NL.lt_tups ta tb (by omega) ?_)
        rw [dat, PyData.canLay0] at la lb
        rw [dat, PyData.depth] at da db
        have := ih (A := A.in1) ra rb la lb (by omega) (by omega) (by show A.units + 1 + n + 20 < cLine; omega)
        simpa using this
end
end K9

set_option maxHeartbeats 400000
/-! Dicts whose keys are nested tuples. -/
namespace K9
open PySem PySem.Spec PySem.SeqAt PyProof.Rows L2 K2

abbrev NE := NestedKey × Addr × Value
/-- a dict at d with the entries xs: key, where its tuple stands, value -/
def ND (P : Program) (w : World) (d : Addr) (xs : List NE) : HO := .ext fun h => (d == sysModules) = false ∧ ∃ o es ep, h.get? d = some o ∧ o.ExactDict ∧ o.data = .dict es ep ∧ es.toList = xs.map (entryOfKey (nestedKind P w)) ∧ (xs.map (·.1)).Nodup
/-- the view of its values -/
def valsO (p d : Addr) : HO := .ext fun h => h.IsValuesView p d
/-- the keys stand -/
def KeyIn (H : Hp) (x : NE) : Prop := ∃ e, x.1 = nk e ∧ Rep H (.ref x.2.1) e ∧ (nk e).depth ≤ 8
section
variable {P : Program} {w : World} {H : Hp} {h : Heap} {d : Addr} {xs : List NE}
theorem nd_ok {o : Obj} {es : Array DictEntry} {ep : Nat} (hd : (d == sysModules) = false) (e : h.get? d = some o) (ex : o.ExactDict) (ed : o.data = .dict es ep) (l : es.toList = xs.map (entryOfKey (nestedKind P w))) (nd : (xs.map (·.1)).Nodup) : ObjOk P w H h d (ND P w d xs) :=
  ⟨⟨hd, o, es, ep, e, ex, ed, l, nd⟩, ⟨_, e⟩, fun h1 h2 ⟨a, o, es, ep, e, r⟩ k => ⟨a, o, es, ep, k o e, r⟩⟩
theorem vals_ok {p : Addr} (e : h.get? p = some { cls := .type "dict_values", data := .fields #[.ref d] }) : ObjOk P w H h p (valsO p d) :=
  ⟨⟨_, e, rfl, rfl⟩, ⟨_, e⟩, fun h1 h2 ⟨o, e, r⟩ k => ⟨o, k o e, r⟩⟩
end
section
variable {X : Cx}
theorem pe_dnewN {pos : PySem.Pos} : PE X (.Dict [] [] pos) (fun _ H Q => ∀ p, H p = none → Q (.ref p) (upd H p (ND X.prog X.w p []))) := ⟨fun pins s σ H Q I h => by
  refine wpAny_Dict_empty ⟨.ref s.heap.objs.size, _, I.laid (a := s.heap.objs.size) (o := ND X.prog X.w s.heap.objs.size []) (t' := s.toks) (fun _ _ q => Heap.get?_push_of_some _ q) (Nat.le_refl _) ?_, rfl, h _ (I.hok.fresh (Nat.le_refl _))⟩
  exact nd_ok (beq_eq_false_iff_ne.mpr (Ne.symm (Nat.ne_of_lt I.big))) (Heap.get?_push_size _ rfl) ⟨rfl, rfl, rfl⟩ rfl rfl List.nodup_nil⟩
/-- d[k] = v -/
def rSetN (P : Program) (w : World) : V → V → V → Hp → (Hp → Prop) → Prop := fun o i v H Q => ∃ (d k u : Addr) (kd : D) (xs : List NE), o = .ref d ∧ i = .ref k ∧ v = .ref u ∧ H d = some (ND P w d xs) ∧ (∀ x ∈ xs, KeyIn H x) ∧ Rep H (.ref k) kd ∧ (nk kd).depth ≤ 8 ∧ xs.length ≤ 1000 ∧ Q (upd H d (ND P w d (storedH xs (nk kd) k (.ref u))))
theorem dict_in {pins : List (Addr × Obj)} {σ : L2.St} {H : Hp} {s : Shared} {d : Addr} {xs : List NE} (I : Inv X pins σ H s) (hd : H d = some (ND X.prog X.w d xs)) (hk : ∀ x ∈ xs, KeyIn H x) : (d == sysModules) = false ∧ s.heap.DictOfH (nestedKind X.prog X.w) d xs := by
  obtain ⟨⟨sm, o, es, ep, e, ex, ed, l, nd⟩, _, _⟩ := (show ObjOk X.prog X.w H s.heap d (ND X.prog X.w d xs) from I.hok d _ hd)
  refine ⟨sm, o, es, ep, e, ex, ed, l, fun x hx => ?_, nd⟩
  obtain ⟨e, e1, r, dp⟩ := hk x hx
  rw [e1]
  exact ⟨Rep.nested I r rfl, dp⟩
theorem set_nd (hu : X.A.units + 64 < cLine) : PSet X (rSetN X.prog X.w) := by
  intro pins s σ H o i v ov iv u Q I ro ri rv h
  obtain ⟨d, k, u', kd, xs, rfl, rfl, rfl, hd, hk, rk, dp, len, q⟩ := h
  cases ro
  cases ri
  cases rv
  obtain ⟨sm, dd⟩ := dict_in I hd hk
  have line : 1000 ≤ sizeLine := by decide
  refine wpAny_setItem_heap (knd := nestedKind X.prog X.w) (hsz := by omega) (by show X.A.units + 1 + 8 < cLine; omega) ⟨Rep.nested I rk rfl, dp⟩ dd fun h' dd' sb => ?_
  obtain ⟨o, es, ep, e, ex, ed, l, _, nd⟩ := dd'
  exact ⟨_, I.write (x := d) (e := d) (by rw [hd]; exact True.intro) (.inl rfl) (fun b q hb z => (sb.2 b hb).trans z) ⟨_, e⟩ (nd_ok sm e ex ed l nd), q⟩
/-- e.values() -/
def tVals (P : Program) (w : World) (to : TE) : TE := fun σ H Q => to σ H fun x H1 => ∃ (d : Addr) (xs : List NE), x = .ref d ∧ H1 d = some (ND P w d xs) ∧ ∀ p, H1 p = none → Q (.ref p) (upd H1 p (valsO p d))
theorem pe_vals {o : Expr} {to : TE} {apos cpos : PySem.Pos} (ho : PE X o to)
    (hbase : attributeBase o "values" X.env (eval o X.env) = eval o X.env := by rfl) (hline : (apos.endLine == cpos.line) = true := by rfl) : PE X (.Call (.Attribute o "values" apos) [] [] cpos) (tVals X.prog X.w to) := by
  refine ⟨fun pins s σ H Q I h => ?_⟩
  refine wpAny_Call_method0_late hbase hline (thn (ho.run pins s σ H _ I h) fun v s1 ⟨x, H1, I1, r1, d, xs, ex, hd, q1⟩ => ?_)
  subst ex
  cases r1
  obtain ⟨⟨sm, o, es, ep, e, exd, ed, l, nd⟩, _, _⟩ := (show ObjOk X.prog X.w H1 s1.heap d (ND X.prog X.w d xs) from I1.hok d _ hd)
  refine ⟨"dict", "dict.values", PySem.F.plainAttrs_dict, PySem.F.slot_dict_values, PySem.F.type_dict_values, ⟨o, e, exd.1⟩, fun a ea => ?_, Calls.callWith_builtin rfl (PySem.evalArgs_none ?_)⟩
  · cases ea
    exact ⟨o, e, exd.2.1⟩
  · refine call_meetsIn PySem.F.slot_dict_values ⟨o, e, exd.1⟩ PySem.F.entry_dict_values (PySem.F.args_dict_values_1 _) (meets_dict_values_raw d sm) ⟨⟨es, ep, o, e, exd, ed⟩, ?_⟩
    exact ⟨.ref s1.heap.objs.size, _, I1.laid (t' := s1.toks) (o := valsO s1.heap.objs.size d) (fun b ob q => Heap.get?_push_of_some _ q) (Nat.le_refl _) (vals_ok (Heap.get?_push_size _ rfl)), rfl, q1 _ (I1.hok.fresh (Nat.le_refl _))⟩
end
end K9

set_option maxHeartbeats 400000
/-! sorted(d.values()) of tuples that can be told apart. -/
namespace K9
open PySem PySem.Spec PySem.SeqAt PySem.Calls PyProof.Rows L2 K2

/-- a tuple, a word ahead -/
def Headed (d : D) : Prop := ∃ w r, d = .tup (.str w :: r)
/-- the same, or told apart -/
def Apart (a b : D) : Prop := a = b ∨ ∃ x y, a = .tup x ∧ b = .tup y ∧ Cmpb 3 x y
section
variable {P : Program} {w : World} {A : Around} {s : Shared} {Q : Bool → Shared → Prop}
/-- behind the first place -/
theorem kat_of {b fin : Bool} : ∀ {ps : List (Value × Value)} {k : Bool} {i : Nat}, i ≠ 0 → NL.Fst A s fin ps k → Q k s → PySem.W.KatLex P w A b fin Q ps i s
  | _, _, i, hi, .nil, q => PySem.W.kat_nil q
  | _, _, i, hi, .same e r, q => PySem.W.kat_cons (e P w _ _ (PySem.W.kat_yes (kat_of (i := i + 1) (by omega) r q)))
  | _, _, i, hi, .diff e l, q => PySem.W.kat_cons (e P w _ _ (PySem.W.kat_no (by
      have : (b && i == 0) = false := by
        rw [show (i == 0) = false from by simpa using hi, Bool.and_false]
      rw [this]
      exact PySem.W.kat_one _ _ (l P w _ _ q))))
/-- the same parts -/
theorem kat_same {b : Bool} : ∀ {ds : List D} {vs us : List Value} {as bs : List Addr} {i : Nat}, ReadsAll s.heap vs (dats ds) as → ReadsAll s.heap us (dats ds) bs → PyData.canLayAll0 (dats ds) = true → PyData.depthAll (dats ds) ≤ 16 → A.units + 20 < cLine → Q false s → PySem.W.KatLex P w A b (decide (vs.length < us.length)) Q (vs.zip us) i s
  | [], vs, us, as, bs, i, hv, hu, _, _, _, q => by
    rw [show dats [] = [] from rfl] at hv hu
    cases hv
    cases hu
    exact PySem.W.kat_nil q
  | d :: r, vs, us, as, bs, i, hv, hu, la, dp, un, q => by
    obtain ⟨l1, l2⟩ := lay_cons la
    obtain ⟨d1, d2⟩ := dep_cons dp
    rw [dats] at hv hu
    cases hv with
    | cons h1 h2 =>
      cases hu with
      | cons k1 k2 =>
        have e := eqAt_reads _ _ A s _ _ _ _ h1 k1 l1 l1 (by omega)
        rw [eqv_same] at e
        have e2 : ∀ m n : Nat, decide (m + 1 < n + 1) = decide (m < n) := fun m n => by simp [Nat.succ_lt_succ_iff]
        refine PySem.W.kat_cons (e P w _ _ (PySem.W.kat_yes ?_))
        rw [List.length_cons, List.length_cons, e2]
        exact kat_same h2 k2 l2 d2 un q
/-- two tuples, a word ahead of each -/
theorem kat_head {v u : Value} {x y : List D} {as bs : List Addr} (hv : Reads s.heap v (dat (.tup x)) as) (hu : Reads s.heap u (dat (.tup y)) bs) (hx : ∃ w r, x = .str w :: r) (hy : ∃ w r, y = .str w :: r) (ap : x = y ∨ Cmpb 3 x y)
    (lx : PyData.canLayAll0 (dats x) = true) (ly : PyData.canLayAll0 (dats y) = true) (dx : PyData.depthAll (dats x) ≤ 16) (dy : PyData.depthAll (dats y) ≤ 16) (un : A.units + 30 < cLine) (q : Q (ltL (rows x) (rows y)) s) :
    wpAny (model P w) A (keyLt' (tuples' true) v u) Q (fun _ _ => False) s := by
  obtain ⟨a, ia, as', rfl, ⟨oa, ha, hca, na, hda⟩, ra⟩ := reads_tup hv
  obtain ⟨b, ib, bs', rfl, ⟨ob, hb, hcb, nb, hdb⟩, rb⟩ := reads_tup hu
  refine PySem.W.kat_lt ha hda hb hdb ?_
  rw [← Array.length_toList, ← Array.length_toList]
  rcases ap with rfl | ap
  · rw [ltL_self] at q
    exact kat_same ra rb lx dx (by omega) q
  · obtain ⟨w1, r, rfl⟩ := hx
    obtain ⟨w2, t, rfl⟩ := hy
    obtain ⟨l1, l2⟩ := lay_cons lx
    obtain ⟨k1, k2⟩ := lay_cons ly
    obtain ⟨d1, d2⟩ := dep_cons dx
    obtain ⟨e1, e2⟩ := dep_cons dy
    rw [dats] at ra rb
    generalize ia.toList = va at ra ⊢
    generalize ib.toList = vb at rb ⊢
    cases ra with
    | cons p1 p2 =>
      cases rb with
      | cons q1 q2 =>
        have e := eqAt_reads _ _ A s _ _ _ _ p1 q1 l1 k1 (by omega)
        refine PySem.W.kat_cons (e P w _ _ ?_)
        by_cases hw : w1 = w2
        · subst hw
          rw [eqv_same]
          rw [rows_same] at q
          have ap : Cmpb 3 r t := by
            cases ap with
            | same h => exact h
            | texts h => exact absurd rfl h
          have f := fst_of ap (A := A) p2 q2 l2 k2 d2 e2 (by omega)
          have e2 : ∀ m n : Nat, decide (m + 1 < n + 1) = decide (m < n) := fun m n => by simp [Nat.succ_lt_succ_iff]
          rw [List.length_cons, List.length_cons, e2]
          exact PySem.W.kat_yes (kat_of (by decide) f q)
        · rw [eqv_no (fun z => hw (by cases z; rfl))]
          rw [rows_texts hw] at q
          rw [dat] at p1 q1
          cases p1
          cases q1
          exact PySem.W.kat_no (PyProof.Rows.oneLt_any_str q)
/-- the parts' signs of a value -/
noncomputable def signsOf (h : Heap) (v : Value) : List Nat := open Classical in if q : ∃ x, NestedIs h (nk (.tup x)) v then rows q.choose else []
theorem signs_of {h : Heap} {v : Value} {x : List D} (q : NestedIs h (nk (.tup x)) v) : signsOf h v = rows x := by
  have q' : ∃ x, NestedIs h (nk (.tup x)) v := ⟨x, q⟩
  unfold signsOf
  rw [dif_pos q']
  have e := nk_inj (NestedIs.inj _ _ _ q'.choose_spec q)
  rw [D.tup.inj e]
theorem katTups {h : Heap} : ∀ {vs : List Value}, (∀ v ∈ vs, ∃ w r as, Reads h v (dat (.tup (.str w :: r))) as) → ∃ fs : List Value, PySem.W.KatTups h vs fs ∧ fs.length = vs.length ∧ ∀ f ∈ fs, ∃ x t, f = .str x t
  | [], _ => ⟨[], PySem.W.KatTups.nil, rfl, fun f hf => (List.not_mem_nil hf).elim⟩
  | v :: vs, hs => by
    obtain ⟨fs, h1, h2, h3⟩ := katTups (vs := vs) fun u hu => hs u (List.mem_cons_of_mem _ hu)
    obtain ⟨w, r, as, rd⟩ := hs v List.mem_cons_self
    obtain ⟨a, its, bs, rfl, ⟨o, ho, hc, n, hd⟩, ra⟩ := reads_tup rd
    rw [dats, dat] at ra
    obtain ⟨l, el⟩ : ∃ l, its.toList = l := ⟨_, rfl⟩
    rw [el] at ra
    cases ra with
    | cons p1 p2 =>
      cases p1 with
      | str _ t =>
        refine ⟨.str ⟨⟨w⟩⟩ t :: fs, PySem.W.KatTups.cons ho hc hd ?_ h1, by rw [List.length_cons, List.length_cons, h2], fun f hf => ?_⟩
        · rw [← Array.getElem?_toList, el]
          rfl
        · rcases List.mem_cons.mp hf with rfl | hf
          · exact ⟨_, _, rfl⟩
          · exact h3 f hf
end
section
variable {X : Cx}
theorem vals_refs : ∀ (as : List Addr), Vals (as.map V.ref) (as.map Value.ref)
  | [] => .nil
  | a :: r => .cons rfl (vals_refs r)
theorem refs_perm {out : List Value} {as : List Addr} (h : out.Perm (as.map Value.ref)) : ∃ bs : List Addr, out = bs.map Value.ref ∧ bs.Perm as := by
  refine ⟨out.map fun v => match v with | .ref a => a | _ => 0, ?_, ?_⟩
  · rw [List.map_map]
    refine (List.map_id out).symm.trans (List.map_congr_left fun v hv => ?_)
    obtain ⟨a, _, rfl⟩ := List.mem_map.mp (h.mem_iff.mp hv)
    rfl
  · have := h.map fun v => match v with | .ref a => a | _ => 0
    rw [List.map_map] at this
    have e : (as.map ((fun v => match v with | .ref a => a | _ => 0) ∘ Value.ref)) = as := (List.map_congr_left fun a _ => rfl).trans (List.map_id as)
    rw [e] at this
    exact this
/-- sorted(d.values()) -/
def rSortV (P : Program) (w : World) : List V → Hp → VK → Prop := fun vs H Q => ∃ (p d : Addr) (xs : List NE) (as : List Addr) (ds : List D), vs = [.ref p] ∧ H p = some (valsO p d) ∧ H d = some (ND P w d xs) ∧ xs.map (fun x => x.2.2) = as.map Value.ref ∧ RepL H (as.map V.ref) ds ∧ as.length ≤ 1000 ∧
  (∀ d ∈ ds, Headed d ∧ (dat d).canLay0 = true ∧ (dat d).depth ≤ 16) ∧ ((xs.map (·.1)).Nodup → ∀ a ∈ ds, ∀ b ∈ ds, Apart a b) ∧
  ∀ (l : Addr) (bs : List Addr), H l = none → bs.Perm as → Q (.ref l) (upd H l (.lst (bs.map V.ref)))
theorem cr_sortedVals (hc : X.calm = true) (hu : X.A.units + 64 < cLine) : CallR X (.builtin "sorted") (rSortV X.prog X.w) := by
  intro pins s σ H xs us Q I r h
  obtain ⟨p, d, xs, as, ds, rfl, hp, hd, hv, rs, len, good, ap, q⟩ := h
  obtain rfl := Vals.ref1 r
  have line : 1000 ≤ sizeLine := by decide
  have view : s.heap.IsValuesView p d := (show ObjOk X.prog X.w H s.heap p (valsO p d) from I.hok p _ hp).1
  obtain ⟨⟨sm, o, es, ep, e, ex, ed, l, nd⟩, _, _⟩ := (show ObjOk X.prog X.w H s.heap d (ND X.prog X.w d xs) from I.hok d _ hd)
  have ev : es.toList.map (·.val) = as.map Value.ref := by
    rw [l, List.map_map, ← hv]
    rfl
  have sz : es.size = as.length := by
    have := congrArg List.length ev
    rwa [List.length_map, List.length_map, Array.length_toList] at this
  have hh : X.A.handled = none := I.ok.hd hc
  -- the data of the values
  have rd : ∀ v ∈ as.map Value.ref, ∃ x : List D, .tup x ∈ ds ∧ (∃ cs, Reads s.heap v (dat (.tup x)) cs) ∧ NestedIs s.heap (nk (.tup x)) v := by
    intro v hv'
    obtain ⟨a, ha, rfl⟩ := List.mem_map.mp hv'
    obtain ⟨i, hi⟩ := List.mem_iff_getElem?.mp ha
    have al := rs.len
    rw [List.length_map] at al
    have lt : i < ds.length := by
      have := (List.getElem?_eq_some_iff.mp hi).1
      omega
    obtain ⟨v', hv2, rv⟩ := rs.get (List.getElem?_eq_getElem lt)
    rw [List.getElem?_map, hi] at hv2
    cases hv2
    have mem := List.getElem_mem lt
    obtain ⟨w, r, er⟩ := (good _ mem).1
    rw [er] at rv mem
    exact ⟨_, mem, (rv.dp (K := X.K)).reads I _ _ _ rfl, Rep.nested I rv rfl⟩
  refine call_function_entry kind_sorted plain_sorted entry_sorted (args_sorted1 _) ?_
  unfold Builtin.«sorted»
  refine wpAny_bind (m := checkCount "sorted" 1 1 _) (wpAny_pure ?_)
  refine wpAny_bind (PySem.W.kdu_collect (A := X.A.in1) (KdlSrc.rawValues (r := p) (d := d) (es := es) (ep := ep)) hh ⟨view, o, e, ex, ed⟩ (by omega) fun h' tk acc hk hacc => ?_)
  have ea : acc.toList = as.map Value.ref := by
    refine List.ext_getElem? fun i => ?_
    rw [← ev]
    by_cases hi : i < es.size
    · have hi2 : i < acc.size := by rw [hacc.1]; exact hi
      have h1 : acc[i]? = some acc[i] := Array.getElem?_eq_getElem hi2
      obtain ⟨hi', e2⟩ := hacc.2 i _ h1
      rw [Array.getElem?_toList, h1, e2, List.getElem?_map, Array.getElem?_toList, Array.getElem?_eq_getElem hi]
      rfl
    · rw [Array.getElem?_toList, List.getElem?_map, Array.getElem?_toList, Array.getElem?_eq_none (by rw [hacc.1]; omega), Array.getElem?_eq_none (by omega)]
      rfl
  have zl : (as.map Value.ref).length ≤ sizeLine := by rw [List.length_map]; omega
  rw [ea]
  refine wpAny_bind (wpAny_newList ?_ zl)
  have hob : (h'.push (seqObj "list" (as.map Value.ref).toArray 0)).get? h'.objs.size = some (seqObj "list" (as.map Value.ref).toArray 0) := Heap.get?_push_size _ rfl
  have kb : ∀ b o, s.heap.get? b = some o → (h'.push (seqObj "list" (as.map Value.ref).toArray 0)).get? b = some o := fun b o e => Heap.get?_push_of_some _ (hk b o e)
  have I1 : Inv X pins σ H { s with heap := h', toks := tk } := I.kept hk
  have free : H h'.objs.size = none := I1.hok.fresh (Nat.le_refl _)
  have I2 : Inv X pins σ (upd H h'.objs.size (.lst (as.map V.ref))) { s with heap := h'.push (seqObj "list" (as.map Value.ref).toArray 0), toks := tk } :=
    I1.laid (t' := tk) (fun b ob q => Heap.get?_push_of_some _ q) (Nat.le_refl _) ⟨by rw [List.length_map]; omega, _, 0, vals_refs as, hob⟩
  have nb : ∀ b o, s.heap.get? b = some o → b ≠ h'.objs.size := fun b o e => Nat.ne_of_lt (Heap.lt_size (hk b o e))
  show wpAny _ _ _ _ _ { s with heap := h'.push (seqObj "list" (as.map Value.ref).toArray 0), toks := tk }
  generalize hh2 : h'.push (seqObj "list" (as.map Value.ref).toArray 0) = h2 at hob kb I2 ⊢
  refine wpAny_bind (wpAny_holding (wpAny_call_entry slot_list_sort ⟨_, hob, rfl⟩ entry_list_sort (SrtO.list_sort_ord (s := { s with heap := h2, toks := tk }) (swo_rows (signsOf s.heap)) hob zl (fun h2' => ?_) fun out hs hb => ⟨_, rfl, ?_⟩) (args_list_sort _)))
  · -- the comparisons
    intro h3 keep
    have k3 : ∀ b o, s.heap.get? b = some o → h3.get? b = some o := fun b o e => keep b o (nb b o e) (kb b o e)
    have rd3 : ∀ v ∈ as.map Value.ref, ∃ x : List D, .tup x ∈ ds ∧ (∃ cs, Reads h3 v (dat (.tup x)) cs) ∧ signsOf s.heap v = rows x := fun v hv => by
      obtain ⟨x, h1, ⟨cs, h2⟩, h3'⟩ := rd v hv
      exact ⟨x, h1, ⟨cs, PyProof.Rows.Reads.keeps k3 h2⟩, signs_of h3'⟩
    refine ⟨tuples' true, fun Q E hq => ?_, fun a b ha hb => ?_⟩
    · obtain ⟨fs, t1, t2, t3⟩ := katTups (h := h3) (vs := as.map Value.ref) fun v hv => by
        obtain ⟨x, h1, ⟨cs, h2⟩, _⟩ := rd3 v hv
        obtain ⟨w, r, er⟩ := (good _ h1).1
        rw [D.tup.inj er] at h2
        exact ⟨w, r, cs, h2⟩
      refine PySem.W.kat_kind (s := { s with heap := h3, toks := tk }) (T := .type "str") t1 (by omega) (fun f hf => ?_) (by rfl) ?_
      · obtain ⟨x, t, rfl⟩ := t3 f hf
        exact PySem.W.Looks.now
      · have e : (Value.type "str" != Value.type "tuple") = true := by decide
        rw [e]
        exact hq
    · obtain ⟨x, x1, ⟨cs, x2⟩, x3⟩ := rd3 _ ha
      obtain ⟨y, y1, ⟨ct, y2⟩, y3⟩ := rd3 _ hb
      obtain ⟨⟨w1, r1, e1⟩, l1, d1⟩ := good _ x1
      obtain ⟨⟨w2, r2, e2⟩, l2, d2⟩ := good _ y1
      have apxy : x = y ∨ Cmpb 3 x y := by
        rcases ap nd _ x1 _ y1 with h | ⟨x', y', h1, h2, h3⟩
        · exact .inl (D.tup.inj h)
        · rw [D.tup.inj h1, D.tup.inj h2]
          exact .inr h3
      rw [dat, PyData.canLay0] at l1 l2
      rw [dat, PyData.depth] at d1 d2
      refine kat_head (s := { s with heap := h3, toks := tk }) x2 y2 ⟨w1, r1, D.tup.inj e1⟩ ⟨w2, r2, D.tup.inj e2⟩ apxy l1 l2 (by omega) (by omega) (by show X.A.units + 1 + 1 + 30 < cLine; omega) ⟨rfl, ?_⟩
      show _ = ltL (signsOf s.heap a.1) (signsOf s.heap b.1)
      rw [x3, y3]
  · refine wpAny_pure ⟨_, rfl, ?_⟩
    obtain ⟨bs, rfl, pm⟩ := refs_perm hb.perm
    obtain ⟨n3, he3⟩ := PyProof.Rows.sortedHeap_at (vs := as.map Value.ref) (out := (bs.map Value.ref).toArray) hob
    have I3 := I2.write (x := h'.objs.size) (e := h'.objs.size) (o := .lst (bs.map V.ref)) (h' := sortedHeap h2 h'.objs.size (as.map Value.ref) (bs.map Value.ref).toArray) (t' := tk) (by rw [upd_same]; exact True.intro) (.inl rfl) (fun b u nb' e' => (PyProof.Rows.sortedHeap_old nb' (Heap.lt_size e')).trans e') ⟨_, he3⟩
      ⟨by rw [List.length_map, pm.length_eq]; omega, _, n3, vals_refs bs, he3⟩
    rw [upd_upd] at I3
    exact ⟨.ref h'.objs.size, _, I3, rfl, q _ _ free pm⟩
end
end K9

set_option maxHeartbeats 400000
/-! Deeds drawn: told apart by what they are about. -/
namespace K9
open PySem PySem.Spec PyProof.Rows L2 K2

def TextD (t : List Nat) : Prop := NameD t ∨ t = cp "*"
/-- spots that are drawn -/
inductive SpotC : D → Prop
  | names (o : Str) (ss : List (List Nat)) : o ∈ [Str.ofString "", Str.ofString "box", Str.ofString "wide"] → ss ≠ [] → ss.length ≤ 3 → (∀ t ∈ ss, TextD t) → SpotC (.tup [.str (cp "main"), .str (cp o), .tup (ss.map D.str)])
  | row (i : Nat) (s : List Nat) : i < 12 → NameD s → SpotC (.tup [.str (cp "main"), .str (cp "goods"), .tup [.int (i : Int), .str s]])
theorem TextD.part {t : List Nat} (h : TextD t) : PartD (.str t) := by
  rcases h with h | rfl
  · exact .inl ⟨t, rfl, h⟩
  · exact .inr (.inr rfl)
theorem SpotC.spot {s : D} (h : SpotC s) : SpotD s := by
  cases h with
  | names o ss ho hn hl ht =>
    refine ⟨o, ?_, _, rfl, ?_⟩
    · simp only [List.mem_cons, List.not_mem_nil, or_false] at ho
      simp only [ownS, List.mem_cons, List.not_mem_nil, or_false]
      rcases ho with h | h | h
      · exact .inl h
      · exact .inr (.inl h)
      · exact .inr (.inr (.inl h))
    · cases ss with
      | nil => exact absurd rfl hn
      | cons t r =>
        refine ⟨.str t, r.map D.str, rfl, (ht t List.mem_cons_self).part, fun x hx => ?_, ?_⟩
        · obtain ⟨u, hu, rfl⟩ := List.mem_map.mp hx
          exact (ht u (List.mem_cons_of_mem _ hu)).part
        · rw [List.length_cons] at hl
          rw [List.length_map]
          omega
  | row i s hi hs =>
    refine ⟨"goods", by decide +kernel, _, rfl, .int (i : Int), [.str s], rfl, .inr (.inl ⟨i, rfl, by omega⟩), fun x hx => ?_, by show 1 ≤ 4; decide⟩
    rw [List.mem_singleton.mp hx]
    exact .inl ⟨s, rfl, hs⟩
theorem cmp_texts {n : Nat} : ∀ {a b : List (List Nat)}, a ≠ b → Cmpb n (a.map D.str) (b.map D.str)
  | [], [], h => absurd rfl h
  | [], _ :: _, _ => .nil1
  | _ :: _, [], _ => .nil2
  | x :: a, y :: b, h => by
    by_cases e : x = y
    · subst e
      exact .same (cmp_texts fun z => h (by rw [z]))
    · exact .texts e
theorem SpotC.apart {n : Nat} {s t : D} (h : SpotC s) (k : SpotC t) (ne : s ≠ t) : ∃ x y, s = .tup x ∧ t = .tup y ∧ Cmpb (n + 1) x y := by
  have gd : ∀ o ∈ [Str.ofString "", Str.ofString "box", Str.ofString "wide"], cp o ≠ cp "goods" := by decide +kernel
  cases h with
  | names o ss ho hn hl ht =>
    cases k with
    | names o' ss' ho' hn' hl' ht' =>
      refine ⟨_, _, rfl, rfl, .same ?_⟩
      by_cases e : cp o = cp o'
      · rw [e] at ne ⊢
        refine .same (.tups (cmp_texts fun z => ne (by rw [z])))
      · exact .texts e
    | row i s hi hs => exact ⟨_, _, rfl, rfl, .same (.texts (gd o ho))⟩
  | row i s hi hs =>
    cases k with
    | names o' ss' ho' hn' hl' ht' => exact ⟨_, _, rfl, rfl, .same (.texts (Ne.symm (gd o' ho')))⟩
    | row i' s' hi' hs' =>
      refine ⟨_, _, rfl, rfl, .same (.same (.tups ?_))⟩
      by_cases e : i = i'
      · subst e
        refine .same ?_
        by_cases z : s = s'
        · exact absurd (by rw [z]) ne
        · exact .texts z
      · exact .nums e
inductive DeedC : D → Prop
  | set (s v : D) : SpotC s → LitD v → DeedC (.tup [.str (txt "set"), s, v])
  | gone (s : D) : SpotC s → DeedC (.tup [.str (txt "gone"), s])
  | order (f : List Nat) (ds : List D) : NameD f → (∀ d ∈ ds, RowD d) → ds.length ≤ 3 → DeedC (.tup [.str (txt "order"), .str f, .str (cp "people"), .tup ds])
theorem DeedC.deed {d : D} (h : DeedC d) : DeedD d := by
  cases h with
  | set s v h1 h2 => exact .set s v h1.spot h2
  | gone s h1 => exact .gone s h1.spot
  | order f ds h1 h2 h3 => exact .order f ds h1 h2 h3
theorem DeedC.apart {a b : D} (h : DeedC a) (k : DeedC b) (ne : K9.about a ≠ K9.about b) : Apart a b := by
  have t1 : txt "order" ≠ txt "gone" := by decide +kernel
  have t2 : txt "order" ≠ txt "set" := by decide +kernel
  have t3 : txt "gone" ≠ txt "set" := by decide +kernel
  refine .inr ?_
  cases h with
  | set s v h1 h2 =>
    rw [K9.about, if_neg (Ne.symm t2)] at ne
    cases k with
    | set s' v' k1 k2 =>
      rw [K9.about, if_neg (Ne.symm t2)] at ne
      obtain ⟨x, y, rfl, rfl, c⟩ := h1.apart (n := 1) k1 ne
      exact ⟨_, _, rfl, rfl, .same (.tups c)⟩
    | gone s' k1 => exact ⟨_, _, rfl, rfl, .texts (Ne.symm t3)⟩
    | order f' ds' k1 k2 k3 => exact ⟨_, _, rfl, rfl, .texts (Ne.symm t2)⟩
  | gone s h1 =>
    rw [K9.about, if_neg (Ne.symm t1)] at ne
    cases k with
    | set s' v' k1 k2 => exact ⟨_, _, rfl, rfl, .texts t3⟩
    | gone s' k1 =>
      rw [K9.about, if_neg (Ne.symm t1)] at ne
      obtain ⟨x, y, rfl, rfl, c⟩ := h1.apart (n := 1) k1 ne
      exact ⟨_, _, rfl, rfl, .same (.tups c)⟩
    | order f' ds' k1 k2 k3 => exact ⟨_, _, rfl, rfl, .texts (Ne.symm t1)⟩
  | order f ds h1 h2 h3 =>
    rw [K9.about, if_pos rfl] at ne
    cases k with
    | set s' v' k1 k2 => exact ⟨_, _, rfl, rfl, .texts t2⟩
    | gone s' k1 => exact ⟨_, _, rfl, rfl, .texts t1⟩
    | order f' ds' k1 k2 k3 =>
      rw [K9.about, if_pos rfl] at ne
      refine ⟨_, _, rfl, rfl, .same (.texts fun z => ne ?_)⟩
      rw [z]
      rfl
theorem DeedC.head {d : D} (h : DeedC d) : Headed d := by
  cases h with
  | set s v h1 h2 => exact ⟨_, _, rfl⟩
  | gone s h1 => exact ⟨_, _, rfl⟩
  | order f ds h1 h2 h3 => exact ⟨_, _, rfl⟩
theorem SpotC.dep {d : D} (h : SpotC d) : (dat d).depth ≤ 2 := by
  have go : ∀ {o : List Nat} {p : List D}, (∀ e ∈ p, Atom e) → (dat (.tup [.str (cp "main"), .str o, .tup p])).depth ≤ 2 := fun {o p} hp => by
    have := dep_atoms hp
    simp only [dat, dats, PyData.depth, PyData.depthAll, this]
    omega
  cases h with
  | names o ss ho hn hl ht =>
    refine go fun e he => ?_
    obtain ⟨t, _, rfl⟩ := List.mem_map.mp he
    trivial
  | row i s hi hs =>
    refine go fun e he => ?_
    simp only [List.mem_cons, List.not_mem_nil, or_false] at he
    rcases he with rfl | rfl <;> trivial
theorem DeedC.dep {d : D} (h : DeedC d) : (dat d).depth ≤ 16 := by
  cases h with
  | set s v h1 h2 =>
    have := h1.dep
    have := dep_atom h2.fine.2.1
    rw [dat, PyData.depth]
    simp only [dats, PyData.depthAll]
    rw [show (dat (.str (txt "set"))).depth = 0 from dep_atom (d := .str _) trivial]
    omega
  | gone s h1 =>
    have := h1.dep
    rw [dat, PyData.depth]
    simp only [dats, PyData.depthAll]
    rw [show (dat (.str (txt "gone"))).depth = 0 from dep_atom (d := .str _) trivial]
    omega
  | order f ds h1 h2 h3 =>
    have := dep_atoms (ds := ds) fun d hd => by
      obtain ⟨i, rfl, _⟩ := h2 d hd
      trivial
    simp only [dat, dats, PyData.depth, PyData.depthAll, this]
    omega
theorem DeedC.good {d : D} (h : DeedC d) : Headed d ∧ (dat d).canLay0 = true ∧ (dat d).depth ≤ 16 := ⟨h.head, h.deed.fine.1.lay, h.dep⟩

/-! ### what has been stored -/
structure Ent where
  key : D
  at_ : Addr
  deed : Addr
  d : D
def Ent.ne (y : Ent) : NE := (nk y.key, y.at_, .ref y.deed)
def storeL (L : List Ent) (z : Ent) : List Ent := if (atKey (L.map Ent.ne) (nk z.key)).isSome then L.map (fun y => if nk y.key = nk z.key then ⟨y.key, y.at_, z.deed, z.d⟩ else y) else L ++ [z]
theorem storeL_ne (L : List Ent) (z : Ent) : (storeL L z).map Ent.ne = storedH (L.map Ent.ne) (nk z.key) z.at_ (.ref z.deed) := by
  unfold storeL storedH
  split
  · rw [List.map_map, List.map_map]
    refine List.map_congr_left fun y _ => ?_
    show Ent.ne (if nk y.key = nk z.key then _ else y) = putAt (nk z.key) (.ref z.deed) (Ent.ne y)
    unfold putAt
    by_cases e : nk y.key = nk z.key
    · rw [if_pos e, if_pos (show (Ent.ne y).1 = _ from e)]
      rfl
    · rw [if_neg e, if_neg (show ¬ (Ent.ne y).1 = _ from e)]
  · rw [List.map_append]
    rfl
theorem storeL_len (L : List Ent) (z : Ent) : (storeL L z).length ≤ L.length + 1 := by
  unfold storeL
  split
  · rw [List.length_map]
    omega
  · rw [List.length_append]
    exact Nat.le_refl _
theorem storeL_mem {L : List Ent} {z y : Ent} (h : y ∈ storeL L z) : y ∈ L ∨ y = z ∨ ∃ y0 ∈ L, y0.key = z.key ∧ y = ⟨y0.key, y0.at_, z.deed, z.d⟩ := by
  unfold storeL at h
  split at h
  · obtain ⟨y0, h0, rfl⟩ := List.mem_map.mp h
    by_cases e : nk y0.key = nk z.key
    · rw [if_pos e]
      exact .inr (.inr ⟨y0, h0, nk_inj e, rfl⟩)
    · rw [if_neg e]
      exact .inl h0
  · rcases List.mem_append.mp h with h | h
    · exact .inl h
    · exact .inr (.inl (List.mem_singleton.mp h))
/-- what stands in the heap -/
def EntOk (G : Hp) (y : Ent) : Prop := Rep G (.ref y.at_) y.key ∧ (nk y.key).depth ≤ 8 ∧ Rep G (.ref y.deed) y.d ∧ DeedC y.d ∧ K9.about y.d = y.key
theorem EntOk.keep {G G' : Hp} {y : Ent} (h : EntOk G y) (k : TupK G G') : EntOk G' y := ⟨h.1.keep k, h.2.1, h.2.2.1.keep k, h.2.2.2⟩
theorem storeL_ok {G : Hp} {L : List Ent} {z : Ent} (h : ∀ y ∈ L, EntOk G y) (hz : EntOk G z) : ∀ y ∈ storeL L z, EntOk G y := fun y hy => by
  rcases storeL_mem hy with hy | rfl | ⟨y0, h0, e, rfl⟩
  · exact h y hy
  · exact hz
  · obtain ⟨a, b, _⟩ := h y0 h0
    obtain ⟨_, _, c, d, f⟩ := hz
    exact ⟨a, b, c, d, f.trans e.symm⟩
theorem ents_apart {G : Hp} {L : List Ent} (h : ∀ y ∈ L, EntOk G y) (nd : ((L.map Ent.ne).map (·.1)).Nodup) : ∀ a ∈ L.map Ent.d, ∀ b ∈ L.map Ent.d, Apart a b := by
  intro a ha b hb
  obtain ⟨y, hy, rfl⟩ := List.mem_map.mp ha
  obtain ⟨z, hz, rfl⟩ := List.mem_map.mp hb
  obtain ⟨_, _, _, y4, y5⟩ := h y hy
  obtain ⟨_, _, _, z4, z5⟩ := h z hz
  by_cases e : K9.about y.d = K9.about z.d
  · refine .inl ?_
    rw [y5, z5] at e
    obtain ⟨i, hi⟩ := List.mem_iff_getElem?.mp hy
    obtain ⟨j, hj⟩ := List.mem_iff_getElem?.mp hz
    have gi : ((L.map Ent.ne).map (·.1))[i]? = some (nk y.key) := by simp [hi, Ent.ne]
    have gj : ((L.map Ent.ne).map (·.1))[j]? = some (nk z.key) := by simp [hj, Ent.ne]
    rw [e] at gi
    have lt := (List.getElem?_eq_some_iff.mp gi).1
    have ij : i = j := (List.getElem?_inj lt nd).mp (gi.trans gj.symm)
    subst ij
    rw [hi] at hj
    cases hj
    rfl
  · exact y4.apart z4 e
theorem ents_rep {G : Hp} : ∀ {L : List Ent}, (∀ y ∈ L, EntOk G y) → RepL G ((L.map Ent.deed).map V.ref) (L.map Ent.d)
  | [], _ => .nil
  | y :: r, h => .cons (h y List.mem_cons_self).2.2.1 (ents_rep fun z hz => h z (List.mem_cons_of_mem _ hz))
end K9

set_option maxHeartbeats 400000
/-! Deeds drawn. -/
namespace K9
open PySem PySem.Spec PyProof.Rows L2 K2

theorem scDeeds : FnScope ["_law_box_here", "_law_found", "_law_turn", "_law_owner", "_law_names", "_law_other", "_law_spot", "_law_rows", "_law_order", "_law_deed"] ["_law_box_here"] (defScope sDeeds) := ⟨rfl, rfl, rfl, by decide +kernel, rfl, by decide +kernel, by decide +kernel⟩
def spDeedsD : Sp := fun vs H Q _ => ∃ (b : Addr) (c : Int), vs = [.ref b] ∧ Box c H b ∧ c + 100 ≤ 200000 ∧ ∀ H' v ds, Kept b H H' → Box (c + 100) H' b → Rep H' v (.tup ds) → (∀ d ∈ ds, DeedD d) → ds.length ≤ 5 → Q v H'
theorem tupK_upd {H : Hp} {d : Addr} {o u : HO} (h : H d = some o) (n : ∀ vs, o ≠ .tup vs) : TupK H (upd H d u) := fun t vs e => by
  have : t ≠ d := by
    rintro rfl
    rw [h] at e
    exact n vs (Option.some.inj e)
  rw [upd_ne this]
  exact e
def owners : List V := [.str "", .str "box", .str "wide"]
theorem reps_of {G : Hp} {L : List Ent} : ∀ {bs : List Addr}, (∀ y ∈ L, EntOk G y) → (∀ a ∈ bs, a ∈ L.map Ent.deed) → ∃ es, RepL G (bs.map V.ref) es ∧ ∀ d ∈ es, DeedD d
  | [], _, _ => ⟨[], .nil, fun d hd => (List.not_mem_nil hd).elim⟩
  | a :: r, h, m => by
    obtain ⟨es, h1, h2⟩ := reps_of (bs := r) h fun b hb => m b (List.mem_cons_of_mem _ hb)
    obtain ⟨y, hy, rfl⟩ := List.mem_map.mp (m a List.mem_cons_self)
    obtain ⟨_, _, y3, y4, _⟩ := h y hy
    refine ⟨y.d :: es, .cons y3 h1, fun d hd => ?_⟩
    rcases List.mem_cons.mp hd with rfl | hd
    · exact y4.deed
    · exact h2 d hd
section
variable {P : Program} {w : World} {K : PySem.W.Frag} {mg : Str → Option Value} {base : Heap}
theorem ok_deedsD {f fT fO fN fL : Addr} {fd fdT fdO fdN fdL : FuncData} (F : Fun K "_law_deeds" "_law_deeds" sDeeds f fd) (Z : Bare mg) (mT : mg "tuple" = none) (mS : mg "sorted" = none)
    (kT : PySem.W.keepIn K (.ref fT) = true) (bT : Binds K fdT ["_law_box_here", "_law_many"] []) (gT : mg "_law_take" = some (.ref fT)) (GT : FnOk P w K mg base CX0 1 fT fdT ["_law_box_here", "_law_many"] spTake)
    (kO : PySem.W.keepIn K (.ref fO) = true) (bO : Binds K fdO ["_law_box_here", "_law_some"] []) (gO : mg "_law_of" = some (.ref fO)) (GO : FnOk P w K mg base CX0 2 fO fdO ["_law_box_here", "_law_some"] spOf)
    (kN : PySem.W.keepIn K (.ref fN) = true) (bN : Binds K fdN ["_law_box_here"] []) (gN : mg "_law_name" = some (.ref fN)) (GN : FnOk P w K mg base CX0 3 fN fdN ["_law_box_here"] spName)
    (kL : PySem.W.keepIn K (.ref fL) = true) (bL : Binds K fdL ["_law_box_here"] []) (gL : mg "_law_literal" = some (.ref fL)) (GL : FnOk P w K mg base CX0 3 fL fdL ["_law_box_here"] spLitD) :
    FnOk P w K mg base CX0 4 f fd ["_law_box_here"] spDeedsD := by
  refine F.ok scDeeds (fun vs H Q E h => ?_) (fun cdv A outer s H vs Q E hr h => ?_)
  · obtain ⟨b, c, rfl, _⟩ := h
    rfl
  · obtain ⟨b, c, rfl, hb, hc, q⟩ := h
    have hr1 := hr.mono (show 1 ≤ 3 by decide)
    have hr2 := hr.mono (show 2 ≤ 3 by decide)
    have hu : (A.deeper (envOfC (Str.ofString "_law_deeds") (defScope sDeeds) s.heap.objs.size f cdv)).units + 64 < cLine := by
      have := hr.un
      omega
    refine ⟨_, pss_cons (ps_set (i := 1) scDeeds.nd rfl (.inl rfl) pe_dnewN)
      (pss_cons (ps_for PassesOwn.never rfl (pi_range1 (by rfl) Z.range (pa_cons (pe_call GT hr1 (by rfl) gT kT bT .nil pass0 (pa_cons (pv 0) (pa_cons pe_int pa_nil))) pa_nil))
          (pg_name (i := 2) scDeeds.nd rfl (Or.inl rfl))
        (pss_cons (ps_par (by rfl) scDeeds.nd (i := 3) (j := 4) rfl rfl (by decide) rfl rfl
          (pa_cons (pe_call GO hr2 (by rfl) gO kO bO .nil pass0 (pa_cons (pv 0) (pa_cons (pe_lst (pa_cons pe_str (pa_cons pe_str (pa_cons pe_str pa_nil)))) pa_nil)))
          (pa_cons (pe_tup (pa_cons (pe_call GN hr (by rfl) gN kN bN .nil pass0 (pa_cons (pv 0) pa_nil)) pa_nil)) pa_nil)) (by rfl))
        (pss_cons (ps_for PassesOwn.never rfl (pi_range1 (by rfl) Z.range (pa_cons (pe_call GT hr1 (by rfl) gT kT bT .nil pass0 (pa_cons (pv 0) (pa_cons pe_int pa_nil))) pa_nil))
            (pg_name (i := 5) scDeeds.nd rfl (Or.inl rfl))
          (pss_one (ps_set (i := 4) scDeeds.nd rfl (.inl rfl) (pe_op op_catA (pv 4) (pe_tup (pa_cons (pe_call GO hr2 (by rfl) gO kO bO .nil pass0 (pa_cons (pv 0) (pa_cons
            (pe_lst (pa_cons pe_str (pa_cons (pe_call GN hr (by rfl) gN kN bN .nil pass0 (pa_cons (pv 0) pa_nil)) pa_nil))) pa_nil))) pa_nil))))))
        (pss_cons (ps_set (i := 6) scDeeds.nd rfl (.inl rfl) (pe_call GO hr2 (by rfl) gO kO bO .nil pass0 (pa_cons (pv 0) (pa_cons
          (pe_lst (pa_cons (pe_tup (pa_cons pe_str (pa_cons (pv 3) (pa_cons (pv 4) pa_nil))))
            (pa_cons (pe_tup (pa_cons pe_str (pa_cons pe_str (pa_cons (pe_tup (pa_cons (pe_call GT hr1 (by rfl) gT kT bT .nil pass0 (pa_cons (pv 0) (pa_cons pe_int pa_nil)))
              (pa_cons (pe_call GN hr (by rfl) gN kN bN .nil pass0 (pa_cons (pv 0) pa_nil)) pa_nil))) pa_nil)))) pa_nil))) pa_nil))))
        (pss_cons (ps_set (i := 7) scDeeds.nd rfl (.inl rfl) (pe_callTy call_tuple_of (by rfl) mT (by decide +kernel) (pa_cons
            (pe_lc (own := [("_law_other", 5)]) (g := gName 5) (tt := tYes) rfl scDeeds.nd (pi_range1 (by rfl) Z.range (pa_cons (pe_call GT hr1 (by rfl) gT kT bT .nil pass0 (pa_cons (pv 0) (pa_cons pe_int pa_nil))) pa_nil))
              (blkOk_by (N := ["_law_box_here", "_law_found", "_law_turn", "_law_owner", "_law_names", "_law_other", "_law_spot", "_law_rows", "_law_order", "_law_deed"]) (sc := defScope sDeeds) (by decide +kernel))
              (fun _ _ _ _ _ => pg_name (i := 5) scDeeds.nd rfl (Or.inl rfl)) (fun _ _ _ _ _ => pts_nil)
              (fun _ _ _ _ _ => pe_call GT hr1 (by rfl) gT kT bT .nil pass0 (pa_cons (pv 0) (pa_cons pe_int pa_nil)))) pa_nil)))
        (pss_cons (ps_set (i := 8) scDeeds.nd rfl (.inl rfl) (pe_tup (pa_cons pe_str (pa_cons (pe_call GN hr (by rfl) gN kN bN .nil pass0 (pa_cons (pv 0) pa_nil)) (pa_cons pe_str (pa_cons (pv 7) pa_nil))))))
        (pss_cons (ps_set (i := 9) scDeeds.nd rfl (.inl rfl) (pe_call GO hr2 (by rfl) gO kO bO .nil pass0 (pa_cons (pv 0) (pa_cons
          (pe_lst (pa_cons (pe_tup (pa_cons pe_str (pa_cons (pv 6) (pa_cons (pe_call GL hr (by rfl) gL kL bL .nil pass0 (pa_cons (pv 0) pa_nil)) pa_nil))))
            (pa_cons (pe_tup (pa_cons pe_str (pa_cons (pv 6) pa_nil))) (pa_cons (pv 8) pa_nil)))) pa_nil))))
        (pss_one (ps_asg (pv 9) (pg_sub (pv 1) (pe_ifExp (pt_cmpR op_eq (pe_ix (r := rIxT K) ix_tup (pv 9) pe_int (fun _ _ => rfl)) pe_str (nomark _))
          (pe_slice (r := rSlT K) sl_tup (pv 9) (po_some pe_int) (po_some pe_int)) (pe_ix (r := rIxT K) ix_tup (pv 9) pe_int (fun _ _ => rfl))) (set_nd hu)))))))))))
      (pss_one (ps_ret (pe_callTy call_tuple_of (by rfl) mT (by decide +kernel) (pa_cons (pe_callB (cr_sortedVals rfl hu) (by rfl) mS (by decide +kernel) (pa_cons (pe_vals (pv 1)) pa_nil)) pa_nil))))), ?_⟩
    intro d0 nd0
    obtain ⟨s0, g0, _⟩ := grow (o := ND P w d0 []) nd0
    have db : d0 ≠ b := hb.nelst nd0
    show gName 1 (.ref d0) _ (upd H d0 (ND P w d0 [])) _
    generalize upd H d0 (ND P w d0 []) = H0 at s0 g0 ⊢
    refine ⟨_, rfl, b, 6, c, rfl, hb.at s0, by decide, by decide, by omega, fun H1 r k1 b1 r0 r6 => ⟨r, rfl, by omega, by omega, ?_⟩⟩
    have kk := (keptS s0).trans k1
    have g1 := k1 _ _ g0 db
    refine for_it walk_range (fun i σ G => ∃ (L : List Ent) (x2 x3 x4 x5 x6 x7 x8 x9 : Option V), σ = [some (.ref b), some (.ref d0), x2, x3, x4, x5, x6, x7, x8, x9] ∧ Kept b H G ∧ Box (c + 1 + 18 * i) G b ∧ G d0 = some (ND P w d0 (L.map Ent.ne)) ∧ (∀ y ∈ L, EntOk G y) ∧ L.length ≤ i)
      ⟨[], none, none, none, none, none, none, none, none, rfl, kk, b1.le (by omega), g1, (fun y hy => (List.not_mem_nil hy).elim), Nat.le_refl _⟩ (fun _ _ _ _ _ => True.intro) ?_ ?_
    · rintro i x σ G G' hi ⟨L, x2, x3, x4, x5, x6, x7, x8, x9, rfl, kG, bG, gd, hL, lL⟩ ⟨rfl, rfl⟩
      -- owner, the first name
      refine ⟨_, rfl, by show 3 ≤ _; decide, fun l2 n2 => ?_⟩
      obtain ⟨s2, g2, _⟩ := grow (o := .lst owners) n2
      show spOf [.ref b, .ref l2] (upd G' l2 (.lst owners)) _ E0
      generalize upd G' l2 (.lst owners) = G2 at s2 g2 ⊢
      refine ⟨b, l2, _, _, rfl, bG.at s2, g2, bG.nelst n2, by decide, by decide, by omega, fun G3 vo k3 b3 ho => ⟨_, rfl, b, _, rfl, b3, by omega, fun G4 y4 k4 b4 h4 => ⟨by show 1 ≤ _; decide, fun t5 n5 => ?_⟩⟩⟩
      obtain ⟨ow, how, rfl⟩ : ∃ o ∈ [Str.ofString "", Str.ofString "box", Str.ofString "wide"], vo = .str o := by
        simp only [owners, List.mem_cons, List.not_mem_nil, or_false] at ho
        rcases ho with h | h | h
        · exact ⟨_, by simp, h⟩
        · exact ⟨_, by simp, h⟩
        · exact ⟨_, by simp, h⟩
      obtain ⟨s5, g5, _⟩ := grow (o := .tup [.str y4]) n5
      generalize upd G4 t5 (.tup [.str y4]) = G5 at s5 g5 ⊢
      have kA : Kept b G' G5 := ((keptS s2).trans k3).trans (k4.trans (keptS s5))
      have b5 := b4.at s5
      clear k3 b3 k4 b4 s5 s2 g2 ho
      refine ⟨_, _, rfl, ?_⟩
      -- more names
      refine ⟨_, rfl, b, 3, _, rfl, b5, by decide, by decide, by omega, fun G6 m k6 b6 m0 m3 => ⟨m, rfl, by omega, by omega, ?_⟩⟩
      have g6 := (b5.tupK k6) _ _ g5
      refine for_it walk_range (fun j σ G => ∃ (t : Addr) (vs : List V) (ss : List (List Nat)) (x5 : Option V), σ = [some (.ref b), some (.ref d0), some (.int (0 + (i : Int))), some (.str ow), some (.ref t), x5, x6, x7, x8, x9] ∧ Kept b G' G ∧ Box (c + 1 + 18 * i + 3 + 2 * j) G b ∧ G t = some (.tup vs) ∧ RepL G vs (ss.map D.str) ∧ ss.length = j + 1 ∧ ∀ t ∈ ss, TextD t)
        ⟨t5, _, [cp y4], x5, rfl, kA.trans k6, b6.le (by omega), g6, .cons (.str y4) .nil, rfl, fun t ht => ?_⟩ (fun _ _ _ _ _ => True.intro) ?_ ?_
      · rw [List.mem_singleton.mp ht]
        exact .inl ⟨y4, h4, rfl⟩
      · rintro j x σ G7 G7' hj ⟨t, vs, ss, x5, rfl, k7, b7, gt, rs, ls, hs⟩ ⟨rfl, rfl⟩
        have vl := rs.len
        rw [List.length_map] at vl
        refine ⟨_, rfl, _, rfl, _, rfl, b, _, rfl, b7, by omega, fun G8 y8 k8 b8 h8 => ⟨by show 2 ≤ _; decide, fun l9 n9 => ?_⟩⟩
        obtain ⟨s9, g9, _⟩ := grow (o := .lst [.str "*", .str y8]) n9
        show spOf [.ref b, .ref l9] (upd G8 l9 (.lst [.str "*", .str y8])) _ E0
        generalize upd G8 l9 (.lst [.str "*", .str y8]) = G9 at s9 g9 ⊢
        refine ⟨b, l9, _, _, rfl, b8.at s9, g9, b8.nelst n9, by show 1 ≤ 2; decide, by show 2 ≤ _; decide, by omega, fun G10 v10 k10 b10 h10 => ⟨by show 1 ≤ _; decide, fun p11 n11 => ?_⟩⟩
        obtain ⟨z, hz, rfl⟩ : ∃ z, TextD (cp z) ∧ v10 = .str z := by
          simp only [List.mem_cons, List.not_mem_nil, or_false] at h10
          rcases h10 with h | h
          · exact ⟨_, .inr rfl, h⟩
          · exact ⟨_, .inl ⟨y8, h8, rfl⟩, h⟩
        obtain ⟨s11, g11, _⟩ := grow (o := .tup [.str z]) n11
        show rCatA K (.ref t) (.ref p11) (upd G10 p11 (.tup [.str z])) _
        generalize upd G10 p11 (.tup [.str z]) = G11 at s11 g11 ⊢
        have kB : Kept b G7' G10 := (k8.trans (keptS s9)).trans k10
        have T := b7.tupK kB
        refine catA (s11 _ _ (T _ _ gt)) g11 (by omega) fun G12 r12 s12 g12 => ?_
        have sx := s11.trans s12
        refine ⟨r12, _, ss ++ [cp z], _, rfl, (k7.trans kB).trans (keptS sx), (b10.at sx).le (by omega), g12, ?_, by rw [List.length_append, ls]; rfl, fun t' ht' => ?_⟩
        · rw [List.map_append]
          exact ((rs.keep T).keep (TupK.same sx)).snoc (.str z)
        · rcases List.mem_append.mp ht' with ht' | ht'
          · exact hs t' ht'
          · rw [List.mem_singleton.mp ht']
            exact hz
      · rintro σ G7 ⟨t, vs, ss, x5, rfl, k7, b7, gt, rs, ls, hs⟩
        have b7 := b7.le (show c + 1 + 18 * (i : Int) + 3 + 2 * (m.toNat : Int) ≤ c + 1 + 18 * i + 7 by omega)
        have kG7 := kG.trans k7
        have nss : ss ≠ [] := by
          rintro rfl
          simp at ls
        have lss : ss.length ≤ 3 := by omega
        clear k6 b6 g6 g5 kA b5
        -- the spot
        refine ⟨_, rfl, _, rfl, _, rfl, by show 3 ≤ _; decide, fun q8 n8 => ?_⟩
        obtain ⟨s8, g8, _⟩ := grow (o := .tup [.str "main", .str ow, .ref t]) n8
        show tCons _ _ _ (upd G7 q8 (.tup [.str "main", .str ow, .ref t])) _
        generalize upd G7 q8 (.tup [.str "main", .str ow, .ref t]) = G8 at s8 g8 ⊢
        have w1 : Rep G8 (.ref q8) (.tup [.str (cp "main"), .str (cp ow), .tup (ss.map D.str)]) := .tup g8 (.cons (.str _) (.cons (.str ow) (.cons (.tup (s8 _ _ gt) (rs.keep (TupK.same s8))) .nil)))
        have b8 := b7.at s8
        have k8 := kG7.trans (keptS s8)
        have T8 : TupK G' G8 := (bG.tupK k7).trans (TupK.same s8)
        have gd8 := s8 _ _ (k7 _ _ gd db)
        clear s8 g8 rs gt b7 kG7 k7
        refine ⟨_, rfl, b, 12, _, rfl, b8, by decide, by decide, by omega, fun G9 z k9 b9 z0 z1 => ⟨_, rfl, b, _, rfl, b9, by omega, fun G10 y10 k10 b10 h10 => ⟨by show 2 ≤ _; decide, fun q11 n11 => ?_⟩⟩⟩
        obtain ⟨z', rfl⟩ := Int.eq_ofNat_of_zero_le z0
        obtain ⟨s11, g11, _⟩ := grow (o := .tup [.int (z' : Int), .str y10]) n11
        generalize upd G10 q11 (.tup [.int (z' : Int), .str y10]) = G11 at s11 g11 ⊢
        refine ⟨by show 3 ≤ _; decide, fun q12 n12 => ?_⟩
        obtain ⟨s12, g12, _⟩ := grow (o := .tup [.str "main", .str "goods", .ref q11]) n12
        show tNil _ (upd G11 q12 (.tup [.str "main", .str "goods", .ref q11])) _
        generalize upd G11 q12 (.tup [.str "main", .str "goods", .ref q11]) = G12 at s12 g12 ⊢
        have w2 : Rep G12 (.ref q12) (.tup [.str (cp "main"), .str (cp "goods"), .tup [.int (z' : Int), .str (cp y10)]]) := .tup g12 (.cons (.str _) (.cons (.str _) (.cons (.tup (s12 _ _ g11) (.cons (.int _) (.cons (.str y10) .nil))) .nil)))
        have sx := s11.trans s12
        have kx := (k9.trans k10).trans (keptS sx)
        have w1 := w1.keep (b8.tupK kx)
        have T12 := T8.trans (b8.tupK kx)
        have k12 := k8.trans kx
        have gd12 := kx _ _ gd8 db
        have b12 := b10.at sx
        clear s11 s12 g11 g12 sx k9 k10 kx b8 b9 b10 k8 T8 gd8
        refine ⟨by show 2 ≤ _; decide, fun l13 n13 => ?_⟩
        obtain ⟨s13, g13, _⟩ := grow (o := .lst [.ref q8, .ref q12]) n13
        show tNil _ (upd G12 l13 (.lst [.ref q8, .ref q12])) _
        generalize upd G12 l13 (.lst [.ref q8, .ref q12]) = G13 at s13 g13 ⊢
        refine ⟨b, l13, _, _, rfl, b12.at s13, g13, b12.nelst n13, by show 1 ≤ 2; decide, by show 2 ≤ _; decide, by omega, fun G14 v14 k14 b14 h14 => ?_⟩
        obtain ⟨a14, sp, rfl, hsp, w14⟩ : ∃ (a : Addr) (sp : D), v14 = .ref a ∧ SpotC sp ∧ Rep G14 (.ref a) sp := by
          have T := (TupK.same s13).trans ((b12.at s13).tupK k14)
          simp only [List.mem_cons, List.not_mem_nil, or_false] at h14
          rcases h14 with rfl | rfl
          · exact ⟨_, _, rfl, .names ow ss how nss lss hs, w1.keep T⟩
          · exact ⟨_, _, rfl, .row z' _ (by omega) ⟨y10, h10, rfl⟩, w2.keep T⟩
        have kx := (keptS s13).trans k14
        have T14 := T12.trans (b12.tupK kx)
        have k14' := k12.trans kx
        have gd14 := kx _ _ gd12 db
        clear w1 w2 s13 g13 h14 kx k14 b12 T12 k12 gd12
        -- the rows
        refine ⟨_, rfl, b, 4, _, rfl, b14, by decide, by decide, by omega, fun G15 n k15 b15 m0' m4 => ⟨n, rfl, by omega, by omega, fun Lr nL => ?_⟩⟩
        have nLb : b ≠ Lr := Ne.symm (b15.nelst nL)
        refine lc_it walk_range (fun j G4 => ∃ (us : List V) (es : List D), Kept b G15 G4 ∧ Box (c + 1 + 18 * i + 7 + 3 + 1 + j) G4 b ∧ G4 Lr = some (.lst us) ∧ RepL G4 us es ∧ es.length = j ∧ ∀ d ∈ es, RowD d)
          ⟨[], [], keptS (same_upd nL), (b15.at (same_upd nL)).le (by omega), upd_same, .nil, rfl, fun d hd => (List.not_mem_nil hd).elim⟩ (fun _ _ _ _ => True.intro) ?_ ?_
        · rintro j x G4 G5 hj ⟨us, es, k4, b4, g4, r4, l4, h4⟩ ⟨rfl, rfl⟩
          have ul := r4.len
          refine ⟨rfl, _, rfl, b, 40, _, rfl, b4, by decide, by decide, by omega, fun G6 z k6 b6 z0 z1 => ?_⟩
          obtain ⟨z', rfl⟩ := Int.eq_ofNat_of_zero_le z0
          have g6 := k6 _ _ g4 (Ne.symm nLb)
          refine ⟨us, g6, Nat.lt_of_le_of_lt (show us.length ≤ 4 by omega) (by decide), us ++ [.int (z' : Int)], es ++ [.int (z' : Int)], ?_, ?_, upd_same, ?_, by rw [List.length_append, l4]; rfl, fun d hd => ?_⟩
          · intro a o ha na
            rw [upd_ne (ne_of_none ha nL)]
            exact (k4.trans k6) _ _ ha na
          · obtain ⟨o, m', n', e', hh⟩ := b6
            refine ⟨o, m', n', ?_, hh.1, hh.2.1, hh.2.2.1, by omega⟩
            rw [upd_ne nLb]
            exact e'
          · exact ((r4.keep (b4.tupK k6)).snoc (.int _)).keep (TupK.lst g6)
          · rcases List.mem_append.mp hd with hd | hd
            · exact h4 d hd
            · rw [List.mem_singleton.mp hd]
              exact ⟨z', rfl, by omega⟩
        · rintro G16 ⟨us, es, k16, b16, g16, r16, l16, h16⟩
          have hes : es.length ≤ 3 := by omega
          have b16 := b16.le (show c + 1 + 18 * (i : Int) + 7 + 3 + 1 + (n.toNat : Int) ≤ c + 1 + 18 * i + 14 by omega)
          refine ⟨Lr, us, rfl, .inl ⟨SqL.of g16, fun p17 n17 => ?_⟩⟩
          obtain ⟨s17, g17, _⟩ := grow (o := .tup us) n17
          show gName 7 (.ref p17) _ (upd G16 p17 (.tup us)) _
          generalize upd G16 p17 (.tup us) = G17 at s17 g17 ⊢
          have w17 : Rep G17 (.ref p17) (.tup es) := .tup g17 (r16.keep (TupK.same s17))
          have kx := (k15.trans k16).trans (keptS s17)
          have w14 := w14.keep (b14.tupK kx)
          have T17 := T14.trans (b14.tupK kx)
          have k17 := k14'.trans kx
          have gd17 := kx _ _ gd14 db
          have b17 := b16.at s17
          clear k15 b15 nLb k16 g16 r16 l16 s17 g17 kx T14 k14' gd14 b16 b14
          -- the order
          refine ⟨_, rfl, b, _, rfl, b17, by omega, fun G18 y18 k18 b18 h18 => ⟨_, rfl, by show 4 ≤ _; decide, fun q19 n19 => ?_⟩⟩
          obtain ⟨s19, g19, _⟩ := grow (o := .tup [.str "order", .str y18, .str "people", .ref p17]) n19
          show gName 8 (.ref q19) _ (upd G18 q19 (.tup [.str "order", .str y18, .str "people", .ref p17])) _
          generalize upd G18 q19 (.tup [.str "order", .str y18, .str "people", .ref p17]) = G19 at s19 g19 ⊢
          have kx := k18.trans (keptS s19)
          have T := b17.tupK kx
          have w19 : Rep G19 (.ref q19) (.tup [.str (txt "order"), .str (cp y18), .str (cp "people"), .tup es]) := .tup g19 (.cons (Rep.str' (by decide +kernel)) (.cons (.str y18) (.cons (.str _) (.cons (w17.keep T) .nil))))
          have w14 := w14.keep T
          have T19 := T17.trans T
          have k19 := k17.trans kx
          have gd19 := kx _ _ gd17 db
          have b19 := b18.at s19
          clear k18 s19 g19 kx T T17 k17 gd17 b17 b18 w17
          -- the deed
          refine ⟨_, rfl, _, rfl, _, rfl, b, _, rfl, b19, by omega, fun G20 v20 d20 k20 b20 r20 h20 => ⟨by show 3 ≤ _; decide, fun q21 n21 => ?_⟩⟩
          obtain ⟨s21, g21, _⟩ := grow (o := .tup [.str "set", .ref a14, v20]) n21
          generalize upd G20 q21 (.tup [.str "set", .ref a14, v20]) = G21 at s21 g21 ⊢
          have kx := k20.trans (keptS s21)
          have T := b19.tupK kx
          have w14 := w14.keep T
          have w19 := w19.keep T
          have w21 : Rep G21 (.ref q21) (.tup [.str (txt "set"), sp, d20]) := .tup g21 (.cons (Rep.str' (by decide +kernel)) (.cons w14 (.cons (r20.keep (TupK.same s21)) .nil)))
          have T21 := T19.trans T
          have k21 := k19.trans kx
          have gd21 := kx _ _ gd19 db
          have b21 := b20.at s21
          clear k20 s21 g21 kx T T19 k19 gd19 b19 b20
          refine ⟨_, rfl, by show 2 ≤ _; decide, fun q22 n22 => ?_⟩
          obtain ⟨s22, g22, _⟩ := grow (o := .tup [.str "gone", .ref a14]) n22
          show tCons _ _ _ (upd G21 q22 (.tup [.str "gone", .ref a14])) _
          generalize upd G21 q22 (.tup [.str "gone", .ref a14]) = G22 at s22 g22 ⊢
          have w22 : Rep G22 (.ref q22) (.tup [.str (txt "gone"), sp]) := .tup g22 (.cons (Rep.str' (by decide +kernel)) (.cons (w14.keep (TupK.same s22)) .nil))
          refine ⟨_, rfl, by show 3 ≤ _; decide, fun l23 n23 => ?_⟩
          obtain ⟨s23, g23, _⟩ := grow (o := .lst [.ref q21, .ref q22, .ref q19]) n23
          show tNil _ (upd G22 l23 (.lst [.ref q21, .ref q22, .ref q19])) _
          generalize upd G22 l23 (.lst [.ref q21, .ref q22, .ref q19]) = G23 at s23 g23 ⊢
          have sx := s22.trans s23
          have b22 := b21.at s22
          refine ⟨b, l23, _, _, rfl, b21.at sx, g23, b22.nelst n23, by show 1 ≤ 3; decide, by show 3 ≤ _; decide, by omega, fun G24 v24 k24 b24 h24 => ?_⟩
          obtain ⟨a24, dd, rfl, hdd, w24⟩ : ∃ (a : Addr) (dd : D), v24 = .ref a ∧ DeedC dd ∧ Rep G24 (.ref a) dd := by
            have T := (b21.at sx).tupK k24
            simp only [List.mem_cons, List.not_mem_nil, or_false] at h24
            rcases h24 with rfl | rfl | rfl
            · exact ⟨_, _, rfl, .set _ _ hsp h20, (w21.keep (TupK.same sx)).keep T⟩
            · exact ⟨_, _, rfl, .gone _ hsp, (w22.keep (TupK.same s23)).keep T⟩
            · exact ⟨_, _, rfl, .order _ _ ⟨y18, h18, rfl⟩ h16 hes, (w19.keep (TupK.same sx)).keep T⟩
          have kx := (keptS sx).trans k24
          have T24 := T21.trans (b21.tupK kx)
          have k24' := k21.trans kx
          have gd24 := kx _ _ gd21 db
          clear w14 w19 w21 w22 h24 g23 s22 s23 sx kx k24 b21 b22 T21 k21 gd21
          have hL := fun y hy => (hL y hy).keep T24
          have hdn : ∀ o, H d0 ≠ some o := fun o e => by
            rw [e] at nd0
            cases nd0
          -- what it is about
          obtain ⟨wd, rr, rfl, hh⟩ := hdd.deed.fine.1.head
          obtain ⟨td, yw, ws, e24, htd, hyw, rws⟩ := rep_head w24
          cases e24
          have tdp := hdd.deed.fine.1.about.2
          have last : ∀ (G25 : Hp) (k : Addr) (z5 : Option V), Same G24 G25 → Rep G25 (.ref k) (K9.about (.tup (.str wd :: rr))) →
              rSetN P w (.ref d0) (.ref k) (.ref a24) G25 (fun H' => ∃ (L : List Ent) (x2 x3 x4 x5 x6 x7 x8 x9 : Option V), [some (.ref b), some (.ref d0), some (.int (0 + (i : Int))), some (.str ow), some (.ref t), z5, some (.ref a14), some (.ref p17), some (.ref q19), some (.ref a24)] = [some (.ref b), some (.ref d0), x2, x3, x4, x5, x6, x7, x8, x9] ∧ Kept b H H' ∧ Box (c + 1 + 18 * ((i + 1 : Nat) : Int)) H' b ∧ H' d0 = some (ND P w d0 (L.map Ent.ne)) ∧ (∀ y ∈ L, EntOk H' y) ∧ L.length ≤ i + 1) := by
            intro G25 k z5 s25 rk
            have gd25 := s25 _ _ gd24
            have hL25 : ∀ y ∈ L, EntOk G25 y := fun y hy => (hL y hy).keep (TupK.same s25)
            refine ⟨d0, k, a24, _, L.map Ent.ne, rfl, rfl, rfl, gd25, fun x hx => ?_, rk, tdp, by rw [List.length_map]; omega, ?_⟩
            · obtain ⟨y, hy, rfl⟩ := List.mem_map.mp hx
              obtain ⟨h1, h2, _⟩ := hL25 y hy
              exact ⟨_, rfl, h1, h2⟩
            · have TU : TupK G25 (upd G25 d0 (ND P w d0 (storedH (L.map Ent.ne) (nk (K9.about (.tup (.str wd :: rr)))) k (.ref a24)))) := tupK_upd gd25 fun vs e => nomatch e
              refine ⟨storeL L ⟨K9.about (.tup (.str wd :: rr)), k, a24, .tup (.str wd :: rr)⟩, _, _, _, _, _, _, _, _, rfl, ?_, ?_, ?_, ?_, Nat.le_trans (storeL_len _ _) (by omega)⟩
              · intro a o ha na
                have ne : a ≠ d0 := by
                  rintro rfl
                  exact hdn o ha
                rw [upd_ne ne]
                exact s25 _ _ (k24' _ _ ha na)
              · obtain ⟨o, m', n', e', h1, h2, h3, h4⟩ := b24
                refine ⟨o, m', n', ?_, h1, h2, h3, by omega⟩
                rw [upd_ne (Ne.symm db)]
                exact s25 _ _ e'
              · rw [upd_same, storeL_ne]
              · exact fun y hy => (storeL_ok (z := ⟨K9.about (.tup (.str wd :: rr)), k, a24, .tup (.str wd :: rr)⟩) hL25 ⟨rk, tdp, w24.keep (TupK.same s25), hdd, rfl⟩ y hy).keep TU
          refine ⟨_, rfl, _, rfl, _, rfl, a24, _, 0, _, rfl, rfl, SqT.of htd, atI_nat (j := 0) rfl, rfl, _, rfl, ?_⟩
          rw [dec_str, hyw]
          rcases hh with ⟨e, f', n', rs', rfl, eab⟩ | ⟨ne, a', t', rfl, eab⟩
          · rw [show cp (Str.ofString "order") = txt "order" from by decide +kernel, decide_eq_true e]
            cases rws with | cons q0 rws => cases rws with | cons q1 rws => cases rws with | cons q2 rws =>
            cases rws
            rename_i u0 u1 u2
            refine iteT ⟨_, rfl, 1, rfl, 3, rfl, a24, _, rfl, SqT.of htd, ?_, fun p2 hp2 => ?_⟩
            · intro z
              exact absurd z.1 (show ¬ HT.sIx 4 0 (some 1) = 0 by decide)
            · have s2 : Same G24 (upd G24 p2 (.tup [u0, u1])) := same_upd hp2
              refine last _ p2 _ s2 ?_
              rw [eab]
              exact .tup upd_same (.cons (q0.keep (TupK.same s2)) (.cons (q1.keep (TupK.same s2)) .nil))
          · rw [show cp (Str.ofString "order") = txt "order" from by decide +kernel, decide_eq_false ne]
            cases rws with | cons q0 rws =>
            rename_i u0 us'
            refine iteF ⟨_, rfl, a24, _, 1, _, rfl, rfl, SqT.of htd, atI_nat (j := 1) rfl, ?_⟩
            obtain ⟨es', e'⟩ := hdd.deed.fine.1.about.1
            rw [eab] at e'
            subst e'
            obtain ⟨ka, rfl⟩ : ∃ ka, u0 = .ref ka := by
              cases q0 with
              | tup _ _ => exact ⟨_, rfl⟩
            refine last _ ka _ (Same.refl _) ?_
            rw [eab]
            exact q0
    · rintro σ G ⟨L, x2, x3, x4, x5, x6, x7, x8, x9, rfl, kG, bG, gd, hL, lL⟩
      have b18 := bG.le (show c + 1 + 18 * (r.toNat : Int) ≤ c + 100 by omega)
      refine ⟨_, rfl, d0, _, rfl, gd, fun p1 n1 => ?_⟩
      obtain ⟨s1, g1', _⟩ := grow (o := valsO p1 d0) n1
      generalize upd G p1 (valsO p1 d0) = G1 at s1 g1' ⊢
      have hL1 : ∀ y ∈ L, EntOk G1 y := fun y hy => (hL y hy).keep (TupK.same s1)
      refine ⟨p1, d0, L.map Ent.ne, L.map Ent.deed, L.map Ent.d, rfl, g1', s1 _ _ gd, ?_, ents_rep hL1, by rw [List.length_map]; omega, fun d hd => ?_, ents_apart hL1, fun l bs nl pm => ?_⟩
      · rw [List.map_map, List.map_map]
        rfl
      · obtain ⟨y, hy, rfl⟩ := List.mem_map.mp hd
        exact (hL1 y hy).2.2.2.1.good
      · obtain ⟨s2, g2, _⟩ := grow (o := .lst (bs.map V.ref)) nl
        generalize upd G1 l (.lst (bs.map V.ref)) = G2 at s2 g2 ⊢
        refine ⟨l, _, rfl, .inl ⟨SqL.of g2, fun t3 n3 => ?_⟩⟩
        obtain ⟨s3, g3, _⟩ := grow (o := .tup (bs.map V.ref)) n3
        generalize upd G2 t3 (.tup (bs.map V.ref)) = G3 at s3 g3 ⊢
        have ss := s1.trans (s2.trans s3)
        obtain ⟨es, re, he⟩ := reps_of (G := G3) (L := L) (bs := bs) (fun y hy => (hL1 y hy).keep (TupK.same (s2.trans s3))) fun a ha => pm.mem_iff.mp ha
        refine q G3 _ es (kG.trans (keptS ss)) (b18.at ss) (.tup g3 re) he ?_
        have := re.len
        have := pm.length_eq
        rw [List.length_map] at *
        omega
end
end K9

set_option maxHeartbeats 400000
/-! What is told of a page that is a plan. -/
namespace K9
open PySem PySem.Spec PyProof.Rows L2 K2

def PtCl (d : D) : Prop := (∃ s, d = .str s ∧ s.all pch = true) ∨ ∃ n : Nat, d = .int (n : Int)
theorem let_pch {s : List Nat} (h : nameOk s = true) : s.all pch = true := by
  unfold nameOk at h
  simp only [Bool.and_eq_true] at h
  rw [List.all_eq_true] at h ⊢
  intro c hc
  unfold pch
  rw [h.1.2 c hc]
  rfl
theorem rName_cl {r s r' : List Nat} (h : rName r = some (s, r')) : s.all pch = true := let_pch (rName_some h).2
theorem rPart_cl {st : Bool} {r r' : List Nat} {d : D} (h : rPart st r = some (d, r')) : PtCl d := by
  unfold rPart at h
  split at h
  · obtain ⟨r1, h1, h2⟩ := Option.map_eq_some_iff.mp h
    cases h2
    exact .inl ⟨_, rfl, by decide⟩
  · split at h
    · obtain ⟨⟨n, r2⟩, h1, h2⟩ := Option.map_eq_some_iff.mp h
      cases h2
      exact .inr ⟨n, rfl⟩
    · obtain ⟨⟨s, r2⟩, h1, h2⟩ := Option.map_eq_some_iff.mp h
      cases h2
      exact .inl ⟨s, rfl, rName_cl h1⟩
theorem rMore_cl {st : Bool} : ∀ {n : Nat} {r r' : List Nat} {ds : List D}, rMore st n r = some (ds, r') → ∀ d ∈ ds, PtCl d
  | 0, r, r', ds, h => by
    cases h
    exact fun d q => (List.not_mem_nil q).elim
  | n + 1, r, r', ds, h => by
    unfold rMore at h
    split at h
    · cases h
      exact fun d q => (List.not_mem_nil q).elim
    · obtain ⟨⟨d, r2⟩, h1, h2⟩ := Option.bind_eq_some_iff.mp h
      obtain ⟨⟨es, r3⟩, h3, h4⟩ := Option.map_eq_some_iff.mp h2
      cases h4
      intro x hx
      rcases List.mem_cons.mp hx with rfl | hx
      · exact rPart_cl h1
      · exact rMore_cl h3 x hx
theorem rPath_cl {st : Bool} {r r' : List Nat} {ds : List D} (h : rPath st r = some (ds, r')) : ∀ d ∈ ds, PtCl d := by
  unfold rPath at h
  obtain ⟨⟨d, r2⟩, h1, h2⟩ := Option.bind_eq_some_iff.mp h
  obtain ⟨⟨es, r3⟩, h3, h4⟩ := Option.map_eq_some_iff.mp h2
  cases h4
  intro x hx
  rcases List.mem_cons.mp hx with rfl | hx
  · exact rPart_cl h1
  · exact rMore_cl h3 x hx
def SpCl (d : D) : Prop := ∃ f o p, d = .tup [.str f, .str o, .tup p] ∧ f.all pch = true ∧ o.all pch = true ∧ ∀ e ∈ p, PtCl e
theorem rSpot_cl {r r' : List Nat} {d : D} (h : rSpot r = some (d, r')) : SpCl d := by
  unfold rSpot at h
  obtain ⟨⟨f, r1⟩, h1, h⟩ := Option.bind_eq_some_iff.mp h
  obtain ⟨r2, h2, h⟩ := Option.bind_eq_some_iff.mp h
  obtain ⟨⟨o, r3⟩, h3, h⟩ := Option.bind_eq_some_iff.mp h
  obtain ⟨r4, h4, h⟩ := Option.bind_eq_some_iff.mp h
  obtain ⟨⟨p, r5⟩, h5, h6⟩ := Option.map_eq_some_iff.mp h
  cases h6
  refine ⟨f, o, p, rfl, rName_cl h1, ?_, rPath_cl h5⟩
  split at h3
  · cases h3
    rfl
  · exact rName_cl h3
inductive DeedCl : D → Prop
  | order (f n : List Nat) (ds : List D) : f.all pch = true → n.all pch = true → DeedCl (.tup [.str (txt "order"), .str f, .str n, .tup ds])
  | gone (s : D) : SpCl s → DeedCl (.tup [.str (txt "gone"), s])
  | set (s v : D) : SpCl s → DeedCl (.tup [.str (txt "set"), s, v])
theorem rDeed_cl {r r' : List Nat} {d : D} (h : rDeed r = some (d, r')) : DeedCl d := by
  unfold rDeed at h
  obtain ⟨r1, h1, h⟩ := Option.bind_eq_some_iff.mp h
  split at h
  · obtain ⟨⟨f, r2⟩, h2, h⟩ := Option.bind_eq_some_iff.mp h
    obtain ⟨r3, h3, h⟩ := Option.bind_eq_some_iff.mp h
    obtain ⟨⟨n, r4⟩, h4, h⟩ := Option.bind_eq_some_iff.mp h
    obtain ⟨r5, h5, h⟩ := Option.bind_eq_some_iff.mp h
    obtain ⟨⟨x, r6⟩, h6, h7⟩ := Option.map_eq_some_iff.mp h
    cases h7
    exact .order f n x (rName_cl h2) (rName_cl h4)
  · split at h
    · obtain ⟨⟨s, r2⟩, h2, h3⟩ := Option.map_eq_some_iff.mp h
      cases h3
      exact .gone s (rSpot_cl h2)
    · split at h
      · obtain ⟨⟨s, r2⟩, h2, h⟩ := Option.bind_eq_some_iff.mp h
        obtain ⟨r3, h3, h⟩ := Option.bind_eq_some_iff.mp h
        obtain ⟨⟨v, r4⟩, h4, h5⟩ := Option.map_eq_some_iff.mp h
        cases h5
        exact .set s v (rSpot_cl h2)
      · cases h
theorem rPMore_cl : ∀ {n : Nat} {r r' : List Nat} {ds : List D}, rPMore n r = some (ds, r') → ∀ d ∈ ds, DeedCl d
  | 0, r, r', ds, h => by
    cases h
    exact fun d q => (List.not_mem_nil q).elim
  | n + 1, r, r', ds, h => by
    unfold rPMore at h
    split at h
    · cases h
      exact fun d q => (List.not_mem_nil q).elim
    · obtain ⟨⟨d, r2⟩, h1, h2⟩ := Option.bind_eq_some_iff.mp h
      obtain ⟨⟨es, r3⟩, h3, h4⟩ := Option.map_eq_some_iff.mp h2
      cases h4
      intro x hx
      rcases List.mem_cons.mp hx with rfl | hx
      · exact rDeed_cl h1
      · exact rPMore_cl h3 x hx
theorem rPlan_cl {r : List Nat} {ds : List D} (h : rPlan r = some ds) : (∀ d ∈ ds, DeedCl d) ∧ ds.length ≤ cnt 0 r + 1 := by
  unfold rPlan at h
  split at h
  · split at h
    · cases h
      exact ⟨fun d q => (List.not_mem_nil q).elim, Nat.zero_le _⟩
    · cases h
  · obtain ⟨⟨d, r2⟩, h1, h⟩ := Option.bind_eq_some_iff.mp h
    obtain ⟨⟨es, r3⟩, h3, h⟩ := Option.bind_eq_some_iff.mp h
    split at h
    · cases h
      refine ⟨fun x hx => ?_, ?_⟩
      · rcases List.mem_cons.mp hx with rfl | hx
        · exact rDeed_cl h1
        · exact rPMore_cl h3 x hx
      · have c := rPMore_cnt h3
        have c2 : cnt 0 r2 ≤ cnt 0 r := by
          rw [(rDeed_some h1).1]
          exact cnt_drop _ _ _
        rw [List.length_cons]
        exact Nat.succ_le_succ (Nat.le_trans c c2)
    · cases h
/-! ### parts of a page -/
def Inf (a l : List Nat) : Prop := ∃ x y, l = x ++ (a ++ y)
theorem Inf.run {a l : List Nat} (h : Inf a l) : K9.run 0 a ≤ K9.run 0 l := by
  obtain ⟨x, y, rfl⟩ := h
  exact Nat.le_trans (run_take a y 0) (run_drop x (a ++ y) 0)
theorem Inf.len {a l : List Nat} (h : Inf a l) : a.length ≤ l.length := by
  obtain ⟨x, y, rfl⟩ := h
  simp only [List.length_append]
  omega
theorem Inf.trans {a b c : List Nat} (h : Inf a b) (k : Inf b c) : Inf a c := by
  obtain ⟨x, y, rfl⟩ := h
  obtain ⟨u, v, rfl⟩ := k
  exact ⟨u ++ x, y ++ v, by simp only [List.append_assoc]⟩
theorem inf_pmore : ∀ {ds : List D} {d : D}, d ∈ ds → Inf (pDeed d) (pPMore ds)
  | e :: r, d, h => by
    rcases List.mem_cons.mp h with rfl | h
    · exact ⟨[59, 32], pPMore r, rfl⟩
    · obtain ⟨x, y, e'⟩ := inf_pmore h
      exact ⟨59 :: 32 :: (pDeed e ++ x), y, by rw [pPMore, e']; simp⟩
theorem inf_plan {ds : List D} {d : D} (h : d ∈ ds) : Inf (pDeed d) (pPlan ds) := by
  cases ds with
  | nil => exact (List.not_mem_nil h).elim
  | cons e r =>
    rcases List.mem_cons.mp h with rfl | h
    · exact ⟨[], pPMore r, rfl⟩
    · obtain ⟨x, y, e'⟩ := inf_pmore h
      exact ⟨pDeed e ++ x, y, by rw [pPlan, e']; simp⟩
theorem inf_more : ∀ {ds : List D} {d : D}, d ∈ ds → Inf (pPart d) (pMore ds)
  | e :: r, d, h => by
    rcases List.mem_cons.mp h with rfl | h
    · exact ⟨[46], pMore r, rfl⟩
    · obtain ⟨x, y, e'⟩ := inf_more h
      exact ⟨46 :: (pPart e ++ x), y, by rw [pMore, e']; simp⟩
theorem inf_path {ds : List D} {d : D} (h : d ∈ ds) : Inf (pPart d) (pPath ds) := by
  cases ds with
  | nil => exact (List.not_mem_nil h).elim
  | cons e r =>
    rcases List.mem_cons.mp h with rfl | h
    · exact ⟨[], pMore r, rfl⟩
    · obtain ⟨x, y, e'⟩ := inf_more h
      exact ⟨pPart e ++ x, y, by rw [pPath, e']; simp⟩
theorem num_run {n : Nat} {l : List Nat} (h : Inf (pPart (.int (n : Int))) l) : (pI (n : Int)).length ≤ K9.run 0 l := by
  have := h.run
  have e : pPart (.int (n : Int)) = 35 :: pN n := by rw [pPart, pI_nat]
  rw [e, run_cons (by decide)] at this
  have d := run_digits (pN n) [] 0 (pN_isDig n)
  rw [List.append_nil] at d
  rw [pI_nat]
  omega
theorem plains_of : ∀ {ds : List D}, (∀ d ∈ ds, plain d = true) → plains ds = true
  | [], _ => rfl
  | d :: r, h => by rw [plains, h d List.mem_cons_self, plains_of fun e he => h e (List.mem_cons_of_mem _ he)]; rfl
theorem spot_plain {d : D} (h : SpCl d) {l : List Nat} (i : Inf (pSpot d) l) (le : K9.run 0 l ≤ 101) : plain d = true := by
  obtain ⟨f, o, p, rfl, hf, ho, hp⟩ := h
  rw [plain]
  refine plains_of fun e he => ?_
  simp only [List.mem_cons, List.not_mem_nil, or_false] at he
  rcases he with rfl | rfl | rfl
  · rw [plain]; exact hf
  · rw [plain]; exact ho
  · rw [plain]
    refine plains_of fun e he => ?_
    rcases hp e he with ⟨s, rfl, hs⟩ | ⟨n, rfl⟩
    · rw [plain]; exact hs
    · have : Inf (pPath p) (pSpot (.tup [.str f, .str o, .tup p])) := ⟨f ++ 47 :: (o ++ [47]), [], by rw [pSpot]; simp⟩
      have := num_run (((inf_path he).trans this).trans i)
      rw [plain]
      exact decide_eq_true (by omega)
theorem DeedCl.plain {d : D} (h : DeedCl d) {l : List Nat} (i : Inf (pDeed d) l) (le : K9.run 0 l ≤ 101) : K9.plain (mark d) = true := by
  cases h with
  | order f n ds hf hn =>
    rw [mark, if_pos rfl]
    show plains [.str (txt "order"), .str f, .str n] = true
    refine plains_of fun e he => ?_
    simp only [List.mem_cons, List.not_mem_nil, or_false] at he
    rcases he with rfl | rfl | rfl
    · rw [K9.plain]; decide +kernel
    · rw [K9.plain]; exact hf
    · rw [K9.plain]; exact hn
  | gone s hs =>
    rw [mark, if_neg (by decide +kernel)]
    exact spot_plain hs (Inf.trans ⟨txt "gone" ++ [32], [], by rw [pDeed]; simp⟩ i) le
  | set s v hs =>
    rw [mark, if_neg (by decide +kernel)]
    exact spot_plain hs (Inf.trans ⟨txt "set" ++ [32], 32 :: pLit v, by rw [pDeed]; simp⟩ i) le
theorem part_g {d : D} (h : PtCl d) : (g d).length ≤ (pPart d).length + 2 := by
  rcases h with ⟨s, rfl, _⟩ | ⟨n, rfl⟩
  · rw [g, pPart]
    simp only [List.length_cons, List.length_append, List.length_nil]
    omega
  · rw [g, pPart, List.length_cons]
    omega
theorem gn_len : ∀ {ds : List D}, (∀ d ∈ ds, PtCl d) → (gn ds).length ≤ 4 * (pMore ds).length + 1
  | [], _ => by rw [gn, pMore]; decide
  | d :: r, h => by
    have h1 := gn_len fun e he => h e (List.mem_cons_of_mem _ he)
    have h2 := part_g (h d List.mem_cons_self)
    rw [gn, pMore]
    simp only [List.length_cons, List.length_append]
    omega
theorem gm_len {ds : List D} (h : ∀ d ∈ ds, PtCl d) : (gm ds).length ≤ 4 * (pMore ds).length + 2 := by
  cases ds with
  | nil => rw [gm, pMore]; decide
  | cons d r =>
    have h1 := gn_len fun e he => h e (List.mem_cons_of_mem _ he)
    have h2 := part_g (h d List.mem_cons_self)
    rw [gm, pMore]
    simp only [List.length_cons, List.length_append]
    omega
theorem spot_g {d : D} (h : SpCl d) : (g d).length ≤ 4 * (pSpot d).length + 20 := by
  obtain ⟨f, o, p, rfl, hf, ho, hp⟩ := h
  have : (gt p).length ≤ 4 * (pPath p).length + 4 := by
    cases p with
    | nil => rw [gt]; simp
    | cons d r =>
      have h1 := gm_len fun e he => hp e (List.mem_cons_of_mem _ he)
      have h2 := part_g (hp d List.mem_cons_self)
      rw [gt, pPath]
      simp only [List.length_append]
      omega
  simp only [g, gt, gm, gn, pSpot, List.length_cons, List.length_append, List.length_nil]
  omega
theorem DeedCl.glen {d : D} (h : DeedCl d) : (g (mark d)).length ≤ 4 * (pDeed d).length + 50 := by
  cases h with
  | order f n ds hf hn =>
    rw [mark, if_pos rfl]
    show (g (.tup [.str (txt "order"), .str f, .str n])).length ≤ 4 * (txt "order" ++ 32 :: (f ++ 47 :: (n ++ 32 :: pSers ds))).length + 50
    have : (txt "order").length = 5 := by decide +kernel
    simp only [g, gt, gm, gn, List.length_cons, List.length_append, List.length_nil]
    omega
  | gone s hs =>
    rw [mark, if_neg (by decide +kernel)]
    have := spot_g hs
    rw [pDeed]
    simp only [List.length_append, List.length_cons]
    omega
  | set s v hs =>
    rw [mark, if_neg (by decide +kernel)]
    have := spot_g hs
    rw [pDeed]
    simp only [List.length_append, List.length_cons]
    omega
/-- all that is asked of a plan read from a page -/
theorem plan_told {r : List Nat} {ds : List D} (h : rPlan r = some ds) (hr : K9.run 0 r ≤ 101) (hc : cnt 0 r ≤ 60) (hl : r.length ≤ 600000) :
    r = pPlan ds ∧ (∀ d ∈ ds, DeedFine d ∧ plain (mark d) = true) ∧ (∀ d ∈ ds, (g (mark d)).length ≤ sizeLine) ∧ (ds.map K9.about).Nodup ∧ ds.length ≤ 100 := by
  obtain ⟨e, _, nd⟩ := rPlan_some h
  obtain ⟨cl, len⟩ := rPlan_cl h
  have line : 3000000 ≤ sizeLine := by decide
  refine ⟨e, fun d hd => ⟨rPlan_fine h d hd, (cl d hd).plain (by rw [e]; exact inf_plan hd) hr⟩, fun d hd => ?_, nd, by omega⟩
  have h1 := (cl d hd).glen
  have h2 := (inf_plan hd).len
  rw [← e] at h2
  omega
end K9

set_option maxHeartbeats 400000
/-! Texts nested too deep. -/
namespace K9
open PySem PySem.Spec PyProof.Rows L2 K2

def many (op : List Nat) : Nat → List Nat → List Nat
  | 0, t => t
  | n + 1, t => op ++ many op n t
def opA : List Nat := [123, 32, 97, 58, 32]
def opB : List Nat := [123, 32, 97, 58, 32, 91, 32, 35, 48, 32]
theorem bindN {α β : Type} {o : Option α} {f : α → Option β} {a : α} (h : o = some a) (h2 : f a = none) : o.bind f = none := by
  rw [h]
  exact h2
theorem bindN0 {α β : Type} {o : Option α} {f : α → Option β} (h : o = none) : o.bind f = none := by
  rw [h]
  rfl
section
variable {rec : List Nat → R (List D)}
theorem pairs_none {n : Nat} {X : List Nat} (h : rCont rec X = none) : rPairs rec (n + 1) (32 :: 97 :: 58 :: 32 :: X) = none := by
  unfold rPairs
  rw [show acc [32, 125] (32 :: 97 :: 58 :: 32 :: X) = none from rfl]
  exact bindN (a := 97 :: 58 :: 32 :: X) rfl (bindN (a := ([97], 58 :: 32 :: X)) rfl (bindN (a := X) rfl (bindN0 h)))
theorem rows_none {n : Nat} {X : List Nat} (h : rec X = none) : rRows rec (n + 1) (32 :: 35 :: 48 :: 32 :: X) = none := by
  unfold rRows
  rw [show acc [32, 93] (32 :: 35 :: 48 :: 32 :: X) = none from rfl]
  exact bindN (a := 35 :: 48 :: 32 :: X) rfl (bindN (a := (0, 32 :: X)) rfl (bindN (a := X) rfl (bindN0 h)))
theorem cont_rec {X : List Nat} (h0 : acc [91] X = none) (h1 : acc [123, 32, 125] X = none) (h2 : (acc [123] X).isSome = true) (h : rec X = none) : rCont rec X = none := by
  unfold rCont
  rw [h0]
  show (if (acc [123, 32, 125] X).isSome = true then none else if (acc [123] X).isSome = true then (rec X).map _ else rLit X) = none
  rw [h1, if_neg (show ¬ (none : Option (List Nat)).isSome = true from Bool.false_ne_true), if_pos h2, h]
  rfl
end
theorem deepA : ∀ (n m : Nat) (t : List Nat), n + 1 ≤ m → rRec n (many opA m t) = none
  | 0, m, t, _ => rfl
  | n + 1, m, t, h => by
    obtain ⟨m, rfl⟩ : ∃ k, m = k + 1 + 1 := ⟨m - 2, by omega⟩
    have ih := deepA n (m + 1) t (by omega)
    rw [rRec]
    refine bindN (a := 32 :: 97 :: 58 :: 32 :: many opA (m + 1) t) rfl ?_
    exact pairs_none (n := (many opA (m + 1) t).length + 3) (cont_rec rfl rfl rfl ih)
theorem deepB : ∀ (n m : Nat) (t : List Nat), n ≤ m → rRec n (many opB m t) = none
  | 0, m, t, _ => rfl
  | n + 1, m, t, h => by
    obtain ⟨m, rfl⟩ : ∃ k, m = k + 1 := ⟨m - 1, by omega⟩
    have ih := deepB n m t (by omega)
    rw [rRec]
    refine bindN (a := 32 :: 97 :: 58 :: 32 :: 91 :: 32 :: 35 :: 48 :: 32 :: many opB m t) rfl ?_
    refine pairs_none (n := (91 :: 32 :: 35 :: 48 :: 32 :: many opB m t).length + 3) ?_
    unfold rCont
    rw [show acc [91] (91 :: 32 :: 35 :: 48 :: 32 :: many opB m t) = some (32 :: 35 :: 48 :: 32 :: many opB m t) from rfl]
    show (rRows (rRec n) ((many opB m t).length + 3 + 1) (32 :: 35 :: 48 :: 32 :: many opB m t)).map _ = none
    rw [rows_none ih]
    rfl
/-- put main/a 0 #0 -/
def putA : List Nat := [112, 117, 116, 32, 109, 97, 105, 110, 47, 97, 32, 48, 32, 35, 48, 32]
theorem put_none {X : List Nat} (h : rRec 40 X = none) : rEdit (putA ++ X) = none := by
  unfold rEdit
  rw [show acc [45] (putA ++ X) = none from rfl]
  refine bindN0 ?_
  unfold rStep
  have h1 : ¬ ([112, 117, 116] : List Nat) = K9.txt "set" := by decide +kernel
  have h2 : ¬ ([112, 117, 116] : List Nat) = K9.txt "take" := by decide +kernel
  have h3 : ([112, 117, 116] : List Nat) = K9.txt "put" := by decide +kernel
  have w : rWord (putA ++ X) = ([112, 117, 116], 32 :: 109 :: 97 :: 105 :: 110 :: 47 :: 97 :: 32 :: 48 :: 32 :: 35 :: 48 :: 32 :: X) := rfl
  rw [w]
  refine bindN (a := 109 :: 97 :: 105 :: 110 :: 47 :: 97 :: 32 :: 48 :: 32 :: 35 :: 48 :: 32 :: X) rfl ?_
  refine bindN (a := (.tup [.str [109, 97, 105, 110], .tup [.str [97]]], 32 :: 48 :: 32 :: 35 :: 48 :: 32 :: X)) rfl ?_
  refine bindN (a := 48 :: 32 :: 35 :: 48 :: 32 :: X) rfl ?_
  show (if ([112, 117, 116] : List Nat) = K9.txt "set" then _ else if ([112, 117, 116] : List Nat) = K9.txt "take" then _ else if ([112, 117, 116] : List Nat) = K9.txt "put" then _ else _) = none
  rw [if_neg h1, if_neg h2, if_pos h3]
  refine bindN (a := (0, 32 :: 35 :: 48 :: 32 :: X)) rfl ?_
  refine bindN (a := 35 :: 48 :: 32 :: X) rfl ?_
  refine bindN (a := (0, 32 :: X)) rfl ?_
  refine bindN (a := X) rfl ?_
  show (rRec 40 X).map _ = none
  rw [h]
  rfl
/-! ### as the law writes them -/
theorem cp_mul (z : Str) (k : Nat) (h : 2 ≤ k) (hz : z.length ≠ 0) : cp (Txt.mul z (k : Int)) = (List.replicate k (cp z)).flatten := by
  unfold Txt.mul
  rw [if_neg (by omega), if_neg (by
    rw [Bool.or_eq_true]
    rintro (h1 | h1)
    · have : (k : Int) = 1 := by simpa using h1
      omega
    · exact hz (by simpa using h1)), Int.toNat_natCast]
  have : ∀ (l : List (Array Nat)) (a : Array Nat), (l.foldl (· ++ ·) a).toList = a.toList ++ (l.map Array.toList).flatten := by
    intro l
    induction l with
    | nil => intro a; simp
    | cons b r ih =>
      intro a
      rw [List.foldl_cons, ih]
      simp
  show ((List.replicate k z.cps).foldl (· ++ ·) #[]).toList = _
  rw [this, List.map_replicate]
  rfl
theorem many_rep (op : List Nat) : ∀ (n : Nat) (t : List Nat), (List.replicate n op).flatten ++ t = many op n t
  | 0, t => rfl
  | n + 1, t => by
    rw [List.replicate_succ, List.flatten_cons, List.append_assoc, many_rep op n t]
    rfl
theorem deep_text (k : Nat) (h : 41 ≤ k) : rEdit (cp ((Str.ofString "put main/a 0 #0 " ++ Txt.mul "{ a: " (k : Int)) ++ Str.ofString "1" ++ Txt.mul " }" (k : Int))) = none := by
  have e1 : cp (Str.ofString "put main/a 0 #0 ") = putA := by decide +kernel
  have e2 : cp (Str.ofString "{ a: ") = opA := by decide +kernel
  rw [cp_app, cp_app, cp_app, e1, cp_mul _ _ (by omega) (by decide +kernel), e2, List.append_assoc, List.append_assoc, many_rep]
  exact put_none (deepA 40 k _ h)
theorem deep_rows : rEdit (cp ((Str.ofString "put main/a 0 #0 " ++ Txt.mul "{ a: [ #0 " ((600 : Nat) : Int)) ++ Str.ofString "{ }" ++ Txt.mul " ] }" ((600 : Nat) : Int))) = none := by
  have e1 : cp (Str.ofString "put main/a 0 #0 ") = putA := by decide +kernel
  have e2 : cp (Str.ofString "{ a: [ #0 ") = opB := by decide +kernel
  rw [cp_app, cp_app, cp_app, e1, cp_mul _ _ (by omega) (by decide +kernel), e2, List.append_assoc, List.append_assoc, many_rep]
  exact put_none (deepB 40 600 _ (by decide))
end K9

set_option maxHeartbeats 400000
/-! Bent pages asked. -/
namespace K9
open PySem PySem.Spec PyProof.Rows L2 K2

theorem scRight : FnScope ["_law_box_here", "_law_pages", "_law_turn", "_law_page", "_law_other", "_law_word", "_law_found"] ["_law_box_here"] (defScope sRight) := ⟨rfl, rfl, rfl, by decide +kernel, rfl, by decide +kernel, by decide +kernel⟩
def spRight : Sp := fun vs H Q _ => ∃ (b : Addr) (c : Int), vs = [.ref b] ∧ Box c H b ∧ c + 23200 ≤ 190000 ∧ ∀ H', Kept b H H' → Box (c + 23200) H' b → Q (.bl true) H'
/-- how often a sign is large, a thousandfold -/
def large (l : List Nat) : Nat := (l.filter fun c => !decide (c < 128)).length * 1000
theorem msr_large : Msr large := by
  refine ⟨fun a b => ?_, fun a b => ?_, fun a b => ?_, rfl, by decide⟩
  · unfold large
    rw [List.filter_append, List.length_append, Nat.add_mul]
    omega
  · unfold large
    rw [List.filter_append, List.length_append, Nat.add_mul]
    omega
  · unfold large
    rw [List.filter_append, List.length_append, Nat.add_mul]
    omega
theorem large_zero {l : List Nat} (h : Small l) : large l = 0 := by
  unfold large
  rw [List.filter_eq_nil_iff.mpr fun c hc => by rw [decide_eq_true (h c hc)]; exact Bool.false_ne_true]
  rfl
theorem small_of {l : List Nat} (h : large l < 1000) : Small l := fun c hc => by
  unfold large at h
  have : (l.filter fun c => !decide (c < 128)).length = 0 := by omega
  have e := List.eq_nil_of_length_eq_zero this
  refine Decidable.byContradiction fun n => ?_
  have m : c ∈ l.filter fun c => !decide (c < 128) := List.mem_filter.mpr ⟨hc, by rw [decide_eq_false n]; rfl⟩
  rw [e] at m
  exact List.not_mem_nil m
/-- what is asked of a page to be read -/
structure PageR (l : List Nat) : Prop where
  len : l.length ≤ 500000
  cnt : cnt 0 l ≤ 60
  run : run 0 l ≤ 101
  sm : Small l
theorem Bent.page {p o z : List Nat} (h : Bent p o z) (hp : PageD p) (ho : PageD o) : PageR z := by
  have m : most = 524288 := by decide
  have l := h.len
  have pl := hp.len
  have ol := ho.len
  have c := h.ms _ msr_cnt (by decide +kernel)
  have r := h.ms _ msr_run (by decide +kernel)
  have g := h.ms _ msr_large (by decide +kernel)
  have pc := hp.cnt
  have oc := ho.cnt
  have pr := hp.run
  have or' := ho.run
  rw [large_zero hp.sm, large_zero ho.sm] at g
  exact ⟨by omega, by omega, by omega, small_of (by omega)⟩
theorem PageR.repr {z : Str} (h : PageR (cp z)) : (reprText z).length ≤ sizeLine := by
  have := StrLaws.reprText_len z fun c hc => Nat.lt_trans (h.sm c hc) (by decide)
  have l := h.len
  have e := cp_len z
  have m : most = 524288 := by decide
  have s : 10000000 ≤ sizeLine := by decide
  omega
theorem emore_len : ∀ ds : List D, ds.length ≤ (pEMore ds).length
  | [] => Nat.le_refl _
  | d :: r => by
    have := emore_len r
    rw [pEMore, List.length_cons, List.length_cons, List.length_cons, List.length_append]
    omega
theorem edit_len (ds : List D) : ds.length ≤ (pEdit ds).length + 1 := by
  cases ds with
  | nil => exact Nat.zero_le _
  | cons d r =>
    have := emore_len r
    rw [pEdit, List.length_cons, List.length_append]
    omega
section
variable {σ : L2.St} {H : Hp} {Q : Bool → Hp → Prop} {U W : TT}
abbrev tWord (U W : TT) : TT := tOr (tTest (tOp rEq (tVar 5) (tC (V.str (Str.ofString "other"))))) (tAnd (tTest (tOp rEq (tVar 5) (tC (V.str (Str.ofString "told"))))) (tNot (tAnd U W)))
theorem word_none (h : σ[5]? = some (some (V.str (Str.ofString "none")))) (q : Q false H) : tWord U W σ H Q := by
  refine ⟨_, h, rfl, _, rfl, ?_⟩
  show if decide (V.str (Str.ofString "none") = V.str (Str.ofString "other")) = true then Q true H else _
  rw [if_neg (by decide +kernel)]
  refine ⟨_, h, rfl, _, rfl, ?_⟩
  show if decide (V.str (Str.ofString "none") = V.str (Str.ofString "told")) = true then _ else Q false H
  rw [if_neg (by decide +kernel)]
  exact q
theorem word_told (h : σ[5]? = some (some (V.str (Str.ofString "told")))) (q : U σ H fun c H1 => if c = true then W σ H1 (fun c H2 => Q (!c) H2) else Q true H1) : tWord U W σ H Q := by
  refine ⟨_, h, rfl, _, rfl, ?_⟩
  show if decide (V.str (Str.ofString "told") = V.str (Str.ofString "other")) = true then Q true H else _
  rw [if_neg (by decide +kernel)]
  refine ⟨_, h, rfl, _, rfl, ?_⟩
  show if decide (V.str (Str.ofString "told") = V.str (Str.ofString "told")) = true then _ else Q false H
  rw [if_pos (by decide +kernel)]
  exact q
end
theorem str_same {y z : Str} (h : cp y = cp z) : V.str y = V.str z := by rw [str_of (rfl : cp y = cp y), str_of (rfl : cp z = cp z), h]
section
variable {P : Program} {w : World} {K : PySem.W.Frag} {mg : Str → Option Value} {base : Heap}
theorem ok_right {f fD fG fB fA fE fP eT pT eF pF : Addr} {fd fdD fdG fdB fdA fdeT fdpT fdeF fdpF : FuncData} (F : Fun K "_law_right" "_law_right" sRight f fd) (Z : Bare mg)
    (kD : PySem.W.keepIn K (.ref fD) = true) (bD : Binds K fdD ["_law_box_here"] []) (gD : mg "_law_edit" = some (.ref fD)) (GD : FnOk P w K mg base CX0 8 fD fdD ["_law_box_here"] spEditD)
    (kG : PySem.W.keepIn K (.ref fG) = true) (bG : Binds K fdG ["_law_box_here"] []) (gG : mg "_law_deeds" = some (.ref fG)) (GG : FnOk P w K mg base CX0 4 fG fdG ["_law_box_here"] spDeedsD)
    (kB : PySem.W.keepIn K (.ref fB) = true) (bB : Binds K fdB ["_law_box_here", "_law_page", "_law_other"] []) (gB : mg "_law_bent_text" = some (.ref fB)) (GB : FnOk P w K mg base CX0 3 fB fdB ["_law_box_here", "_law_page", "_law_other"] spBent)
    (kA : PySem.W.keepIn K (.ref fA) = true) (bA : Binds K fdA ["_law_ask", "_law_value"] []) (gA : mg "_law_asked" = some (.ref fA)) (GA : FnG P w K mg base 130 fA fdA ["_law_ask", "_law_value"] (spAsked K fE fP))
    (gE : mg "read_edit" = some (.ref fE)) (gP : mg "read_plan" = some (.ref fP)) (kE : PySem.W.keepIn K (.ref fE) = true) (kP : PySem.W.keepIn K (.ref fP) = true)
    (keT : PySem.W.keepIn K (.ref eT) = true) (beT : Binds K fdeT ["_law_made_of"] []) (geT : mg "_law_edit_text" = some (.ref eT)) (GeT : FnOk P w K mg base CX0 83 eT fdeT ["_law_made_of"] (spAllT pEdit StepFine))
    (kpT : PySem.W.keepIn K (.ref pT) = true) (bpT : Binds K fdpT ["_law_made_of"] []) (gpT : mg "_law_plan_text" = some (.ref pT)) (GpT : FnOk P w K mg base CX0 3 pT fdpT ["_law_made_of"] (spAllT pPlan DeedFine))
    (keF : PySem.W.keepIn K (.ref eF) = true) (beF : Binds K fdeF ["_law_found"] []) (geF : mg "_law_edit_fine" = some (.ref eF)) (GeF : FnOk P w K mg base CX0 2 eF fdeF ["_law_found"] spEFine)
    (kpF : PySem.W.keepIn K (.ref pF) = true) (bpF : Binds K fdpF ["_law_found"] []) (gpF : mg "_law_plan_fine" = some (.ref pF)) (GpF : FnG P w K mg base 2 pF fdpF ["_law_found"] spPFine) :
    FnG P w K mg base 131 f fd ["_law_box_here"] spRight := by
  refine FnG.mk' F scRight (fun vs H Q E h => ?_) (fun cdv B fr s H vs Q E hG hr h => ?_)
  · obtain ⟨b, c, rfl, _⟩ := h
    rfl
  · obtain ⟨b, c, rfl, hb, hc, q⟩ := h
    have hr2 := hr.mono (show 2 ≤ 130 by decide)
    have hr3 := hr.mono (show 3 ≤ 130 by decide)
    have hr4 := hr.mono (show 4 ≤ 130 by decide)
    have hr8 := hr.mono (show 8 ≤ 130 by decide)
    have hr83 := hr.mono (show 83 ≤ 130 by decide)
    refine ⟨_, pss_cons (ps_set (i := 1) scRight.nd rfl (.inl rfl) (pe_lst
        (pa_cons (pe_call GeT hr83 (by rfl) geT keT beT .nil pass0 (pa_cons (pe_call GD hr8 (by rfl) gD kD bD .nil pass0 (pa_cons (pv 0) pa_nil)) pa_nil))
        (pa_cons (pe_call GpT hr3 (by rfl) gpT kpT bpT .nil pass0 (pa_cons (pe_call GG hr4 (by rfl) gG kG bG .nil pass0 (pa_cons (pv 0) pa_nil)) pa_nil)) pa_nil))))
      (pss_cons (ps_for PassesOwn.never rfl (pi_range1 (by rfl) Z.range (pa_cons pe_int pa_nil)) (pg_name (i := 2) scRight.nd rfl (Or.inl rfl))
        (pss_one (ps_for PassesOwn.never rfl (pi_list (pe_lst (pa_cons (pv 1) (pa_cons (pe_revL (pv 1)) pa_nil))))
            (pg_lst rfl (pgs_cons (pg_name (i := 3) scRight.nd rfl (.inl rfl)) (pgs_cons (pg_name (i := 4) scRight.nd rfl (.inl rfl)) pgs_nil)))
          (pss_cons (ps_set (i := 3) scRight.nd rfl (.inl rfl) (pe_call GB hr3 (by rfl) gB kB bB .nil pass0 (pa_cons (pv 0) (pa_cons (pv 3) (pa_cons (pv 4) pa_nil)))))
          (pss_cons (ps_asg (pe_callG GA hG hr (by rfl) gA kA bA pass0 (pa_cons (pe_glob (v := .ref fE) rfl gE rfl) (pa_cons (pv 3) pa_nil)))
            (pg_tup rfl (pgs_cons (pg_name (i := 5) scRight.nd rfl (.inl rfl)) (pgs_cons (pg_name (i := 6) scRight.nd rfl (.inl rfl)) pgs_nil))))
          (pss_cons (ps_if (PW.pt (pw_or (pt_cmpR op_eq (pv 5) pe_str (nomark _)) (pw_or1 (PW.pt (pw_and (pt_cmpR op_eq (pv 5) pe_str (nomark _)) (pw_and1 (pt_not (PW.pt (pw_and
              (pt_val (pe_call GeF hr2 (by rfl) geF keF beF .nil pass0 (pa_cons (pv 6) pa_nil)))
              (pw_and1 (pt_cmpR op_eq (pe_call GeT hr83 (by rfl) geT keT beT .nil pass0 (pa_cons (pv 6) pa_nil)) (pv 3) (nomark _))))))))))))
            (pss_one ps_never) pss_nil)
          (pss_cons (ps_asg (pe_callG GA hG hr (by rfl) gA kA bA pass0 (pa_cons (pe_glob (v := .ref fP) rfl gP rfl) (pa_cons (pv 3) pa_nil)))
            (pg_tup rfl (pgs_cons (pg_name (i := 5) scRight.nd rfl (.inl rfl)) (pgs_cons (pg_name (i := 6) scRight.nd rfl (.inl rfl)) pgs_nil))))
          (pss_one (ps_if (PW.pt (pw_or (pt_cmpR op_eq (pv 5) pe_str (nomark _)) (pw_or1 (PW.pt (pw_and (pt_cmpR op_eq (pv 5) pe_str (nomark _)) (pw_and1 (pt_not (PW.pt (pw_and
              (pt_val (pe_callG GpF hG hr2 (by rfl) gpF kpF bpF pass0 (pa_cons (pv 6) pa_nil)))
              (pw_and1 (pt_cmpR op_eq (pe_call GpT hr3 (by rfl) gpT kpT bpT .nil pass0 (pa_cons (pv 6) pa_nil)) (pv 3) (nomark _))))))))))))
            (pss_one ps_never) pss_nil)))))))))
      (pss_one (ps_ret pe_bl))), ?_⟩
    have mo : most = 524288 := by decide
    refine ⟨_, rfl, b, c, rfl, hb, by omega, fun H1 v1 ds1 k1 b1 r1 s1 l1 => ?_⟩
    have p1 := edit_page s1 l1
    have p1l := p1.len
    refine ⟨v1, ds1, rfl, r1, fun d hd => (s1 d hd).fine.1, by omega, fun H2 y1 k2 hy1 => ?_⟩
    rw [← hy1] at p1
    have b2 := b1.at k2
    refine ⟨_, rfl, b, _, rfl, b2, by omega, fun H3 v3 ds3 k3 b3 r3 s3 l3 => ?_⟩
    have p3 := plan_page s3 l3
    have p3l := p3.len
    refine ⟨v3, ds3, rfl, r3, fun d hd => ⟨(s3 d hd).fine.1, (s3 d hd).fine.1.lay⟩, by omega, fun H4 y3 k4 hy3 => ⟨by show 2 ≤ _; decide, fun L nL => ?_⟩⟩
    rw [← hy3] at p3
    obtain ⟨s5, g5, _⟩ := grow (o := .lst [.str y1, .str y3]) nL
    show gName 1 (.ref L) _ (upd H4 L (.lst [.str y1, .str y3])) _
    generalize upd H4 L (.lst [.str y1, .str y3]) = H5 at s5 g5 ⊢
    have kk := ((k1.trans (keptS k2)).trans k3).trans ((keptS k4).trans (keptS s5))
    have b4 := b3.at k4
    have b5 := b4.at s5
    have nLb : L ≠ b := b4.nelst nL
    clear k1 b1 r1 s1 k2 b2 k3 b3 r3 s3 k4 b4 s5 p1l p3l hy1 hy3
    refine ⟨6, rfl, by decide, by decide, for_it walk_range (fun i σ G => ∃ x2 x3 x4 x5 x6 : Option V, σ = [some (.ref b), some (.ref L), x2, x3, x4, x5, x6] ∧ Kept b H G ∧ Box (c + 23100 + 10 * i) G b ∧ G L = some (.lst [.str y1, .str y3]))
      ⟨none, none, none, none, none, rfl, kk, b5.le (by omega), g5⟩ (fun _ _ _ _ _ => True.intro) ?_ ?_⟩
    · rintro i x σ G G' hi ⟨x2, x3, x4, x5, x6, rfl, kG, bG, gL⟩ ⟨rfl, rfl⟩
      have hi : i < 6 := hi
      refine ⟨_, rfl, _, rfl, L, _, rfl, SqL.of gL, fun R nR => ?_⟩
      obtain ⟨s6, g6, _⟩ := grow (o := .lst [.str y3, .str y1]) nR
      show tNil _ (upd G' R (.lst [.str y3, .str y1])) _
      generalize upd G' R (.lst [.str y3, .str y1]) = G6 at s6 g6 ⊢
      refine ⟨by show 2 ≤ _; decide, fun M nM => ?_⟩
      obtain ⟨s7, g7, _⟩ := grow (o := .lst [.ref L, .ref R]) nM
      generalize upd G6 M (.lst [.ref L, .ref R]) = G7 at s7 g7 ⊢
      have s67 := s6.trans s7
      have g6' := s7 _ _ g6
      refine ⟨M, rfl, ⟨_, SqL.of g7⟩, for_it (walk_list (K := K) (a := M) (xs := [.ref L, .ref R])) (fun j σ G => ∃ x3 x4 x5 x6 : Option V, σ = [some (.ref b), some (.ref L), some (.int (0 + (i : Int))), x3, x4, x5, x6] ∧ Kept b G' G ∧ Box (c + 23100 + 10 * i + 5 * j) G b ∧ G L = some (.lst [.str y1, .str y3]) ∧ G R = some (.lst [.str y3, .str y1]) ∧ G M = some (.lst [.ref L, .ref R]))
        ⟨x3, x4, x5, x6, rfl, keptS s67, (bG.at s67).le (by omega), s67 _ _ gL, g6', g7⟩ (fun j σ G _ ⟨_, _, _, _, _, _, _, _, _, gM⟩ => SqL.of gM) ?_ ?_⟩
      · rintro j x σ G8 G8' hj ⟨x3, x4, x5, x6, rfl, k8, b8, l8, r8, m8⟩ ⟨rfl, hx⟩
        have hj : j < 2 := hj
        obtain ⟨a, p, o, rfl, ga, hp, ho⟩ : ∃ a p o, x = .ref a ∧ G8' a = some (.lst [.str p, .str o]) ∧ PageD (cp p) ∧ PageD (cp o) := by
          match j, hx with
          | 0, hx =>
            cases hx
            exact ⟨L, y1, y3, rfl, l8, p1, p3⟩
          | 1, hx =>
            cases hx
            exact ⟨R, y3, y1, rfl, r8, p3, p1⟩
        have pl := hp.len
        have ol := ho.len
        refine ⟨a, _, rfl, SqL.of ga, rfl, ?_⟩
        refine ⟨_, _, rfl, _, _, rfl, rfl, _, rfl, _, rfl, _, rfl, b, p, o, _, rfl, b8, by omega, by omega, by omega, fun G9 z k9 b9 bent => ?_⟩
        have pr := bent.page hp ho
        have rp := pr.repr
        have nRb : R ≠ b := (bG.nelst nR)
        have nMb : M ≠ b := (bG.at s6).nelst nM
        have kA := k8.trans k9
        have l9 := k9 _ _ l8 nLb
        have r9 := k9 _ _ r8 nRb
        have m9 := k9 _ _ m8 nMb
        have fin : ∀ (G : Hp) (x5 x6 : Option V), Same G9 G → ∃ x3 x4 x5' x6' : Option V, [some (.ref b), some (.ref L), some (.int (0 + (i : Int))), some (V.str z), some (V.str o), x5, x6] = [some (.ref b), some (.ref L), some (.int (0 + (i : Int))), x3, x4, x5', x6'] ∧ Kept b G' G ∧ Box (c + 23100 + 10 * i + 5 * ((j + 1 : Nat) : Int)) G b ∧ G L = some (.lst [.str y1, .str y3]) ∧ G R = some (.lst [.str y3, .str y1]) ∧ G M = some (.lst [.ref L, .ref R]) := fun G x5 x6 sG =>
          ⟨_, _, x5, x6, rfl, kA.trans (keptS sG), (b9.at sG).le (by omega), sG _ _ l9, sG _ _ r9, sG _ _ m9⟩
        refine ⟨_, rfl, .inl ⟨fE, _, _, z, rfl, .inl ⟨rfl, rfl, rfl⟩, Nat.le_trans pr.len (by decide), trivial, rp, fun G10 t v ds e sm ht rv => ?_, fun e G10 t sm ht => ?_⟩⟩
        · obtain ⟨pe, ok⟩ := rEdit_some e
          have good := rEdit_good e
          have dl := edit_len ds
          rw [← pe] at dl
          have prl := pr.len
          refine ⟨t, _, rfl, SqT.of ht, rfl, _, _, rfl, _, _, rfl, rfl, word_told rfl ?_⟩
          refine ⟨_, rfl, v, ds, rfl, rv, fun d hd => ⟨(good d hd).1, ok d hd⟩, ?_, fun G11 s11 => ⟨true, rfl, iteT ?_⟩⟩
          · omega
          refine ⟨_, rfl, v, ds, rfl, rv.keep (TupK.same s11), good, by rw [← pe]; exact Nat.le_trans pr.len (by decide), fun G12 y s12 hy => ⟨_, rfl, rfl, _, rfl, ?_⟩⟩
          rw [decide_eq_true (str_same (hy.trans pe.symm))]
          have SM := sm.trans (s11.trans s12)
          refine iteF ?_
          · refine ⟨_, rfl, .inl ⟨fP, _, _, z, rfl, .inr ⟨rfl, rfl, rfl⟩, Nat.le_trans pr.len (by decide), Nat.lt_of_le_of_lt pr.cnt (by decide), rp, fun G20 t2 v2 ds2 e2 sm2 ht2 rv2 => ?_, fun e2 G20 t2 sm2 ht2 => ?_⟩⟩
            · obtain ⟨pe, fine, gl, nd, len⟩ := plan_told e2 pr.run pr.cnt (Nat.le_trans pr.len (by decide))
              refine ⟨t2, _, rfl, SqT.of ht2, rfl, _, _, rfl, _, _, rfl, rfl, word_told rfl ?_⟩
              refine ⟨_, rfl, v2, ds2, rfl, rv2, fine, gl, nd, len, fun G21 s21 => ⟨true, rfl, iteT ?_⟩⟩
              refine ⟨_, rfl, v2, ds2, rfl, rv2.keep (TupK.same s21), fun d hd => ⟨(fine d hd).1, (fine d hd).1.lay⟩, by rw [← pe]; exact Nat.le_trans pr.len (by decide), fun G22 y s22 hy => ⟨_, rfl, rfl, _, rfl, ?_⟩⟩
              rw [decide_eq_true (str_same (hy.trans pe.symm))]
              refine iteF ?_
              exact fin G22 _ _ (SM.trans (sm2.trans (s21.trans s22)))
            · refine ⟨t2, _, rfl, SqT.of ht2, rfl, _, _, rfl, _, _, rfl, rfl, word_none rfl ?_⟩
              refine iteF ?_
              exact fin G20 _ _ (SM.trans sm2)
        · refine ⟨t, _, rfl, SqT.of ht, rfl, _, _, rfl, _, _, rfl, rfl, word_none rfl ?_⟩
          have SM := sm
          refine iteF ?_
          · refine ⟨_, rfl, .inl ⟨fP, _, _, z, rfl, .inr ⟨rfl, rfl, rfl⟩, Nat.le_trans pr.len (by decide), Nat.lt_of_le_of_lt pr.cnt (by decide), rp, fun G20 t2 v2 ds2 e2 sm2 ht2 rv2 => ?_, fun e2 G20 t2 sm2 ht2 => ?_⟩⟩
            · obtain ⟨pe, fine, gl, nd, len⟩ := plan_told e2 pr.run pr.cnt (Nat.le_trans pr.len (by decide))
              refine ⟨t2, _, rfl, SqT.of ht2, rfl, _, _, rfl, _, _, rfl, rfl, word_told rfl ?_⟩
              refine ⟨_, rfl, v2, ds2, rfl, rv2, fine, gl, nd, len, fun G21 s21 => ⟨true, rfl, iteT ?_⟩⟩
              refine ⟨_, rfl, v2, ds2, rfl, rv2.keep (TupK.same s21), fun d hd => ⟨(fine d hd).1, (fine d hd).1.lay⟩, by rw [← pe]; exact Nat.le_trans pr.len (by decide), fun G22 y s22 hy => ⟨_, rfl, rfl, _, rfl, ?_⟩⟩
              rw [decide_eq_true (str_same (hy.trans pe.symm))]
              refine iteF ?_
              exact fin G22 _ _ (SM.trans (sm2.trans (s21.trans s22)))
            · refine ⟨t2, _, rfl, SqT.of ht2, rfl, _, _, rfl, _, _, rfl, rfl, word_none rfl ?_⟩
              refine iteF ?_
              exact fin G20 _ _ (SM.trans sm2)
      · rintro σ G8 ⟨x3, x4, x5, x6, rfl, k8, b8, l8, r8, m8⟩
        exact ⟨_, x3, x4, x5, x6, rfl, kG.trans k8, b8.le (by show c + 23100 + 10 * (i : Int) + 5 * ((2 : Nat) : Int) ≤ _; omega), l8⟩
    · rintro σ G ⟨x2, x3, x4, x5, x6, rfl, kG, bG, gL⟩
      exact q G kG (bG.le (by show c + 23100 + 10 * (((6 : Int) - 0).toNat : Int) ≤ _; omega))
end
end K9

set_option maxHeartbeats 400000
/-! Any value drawn. -/
namespace K9
open PySem PySem.Spec PyProof.Rows L2 K2

theorem scAny : FnScope ["_law_box_here", "_law_deep", "_law_some", "_law_parts", "_law_turn"] ["_law_box_here", "_law_deep"] (defScope sAny) := ⟨rfl, rfl, rfl, by decide +kernel, rfl, by decide +kernel, by decide +kernel⟩
/-- how much is shown of a value drawn n deep -/
def shownMost : Nat → Nat
  | 0 => 12
  | n + 1 => 3 * shownMost n + 60
structure GoodV (n : Nat) (d : PyData) : Prop where
  sh : d.showable = true
  dp : d.depth ≤ 2 * n + 1
  ln : d.shown.length ≤ shownMost n
/-- a text is short -/
def Short : V → Prop
  | .str x => x.length ≤ 10 ∧ Small (cp x)
  | _ => True
/-- drawn: objects alone that are not in H0 -/
def AnyV (H0 G : Hp) (n : Nat) (v : V) : Prop := ∃ d, Sh G (fun a => H0 a ≠ none) v d ∧ GoodV n d ∧ Short v
theorem shown_mono : ∀ {n m : Nat}, n ≤ m → shownMost n ≤ shownMost m
  | n, 0, h => by
    obtain rfl : n = 0 := by omega
    exact Nat.le_refl _
  | 0, m + 1, _ => by
    show 12 ≤ 3 * shownMost m + 60
    omega
  | n + 1, m + 1, h => by
    have := shown_mono (n := n) (m := m) (by omega)
    rw [shownMost, shownMost]
    omega
theorem GoodV.le {n m : Nat} {d : PyData} (g : GoodV n d) (h : n ≤ m) : GoodV m d := ⟨g.sh, Nat.le_trans g.dp (by omega), Nat.le_trans g.ln (shown_mono h)⟩
theorem AnyV.le {H0 G : Hp} {n m : Nat} {v : V} (x : AnyV H0 G n v) (h : n ≤ m) : AnyV H0 G m v := by
  obtain ⟨d, a, g, s⟩ := x
  exact ⟨d, a, g.le h, s⟩
theorem AnyV.on {H0 H1 G G' : Hp} {n : Nat} {v : V} (x : AnyV H0 G n v) (hs : ∀ a, H1 a ≠ none → H0 a ≠ none) (k : ∀ a o, H0 a = none → G a = some o → G' a = some o) : AnyV H1 G' n v := by
  obtain ⟨d, a, g, s⟩ := x
  exact ⟨d, a.mono hs fun a o na e => k a o (Decidable.byContradiction na) e, g, s⟩
theorem AnyV.kept {H0 G G' : Hp} {b : Addr} {n : Nat} {v : V} (x : AnyV H0 G n v) (hb : H0 b ≠ none) (k : Kept b G G') : AnyV H0 G' n v := x.on (fun _ z => z) fun a o na e => k a o e fun z => hb (z ▸ na)
theorem AnyV.same {H0 G G' : Hp} {n : Nat} {v : V} (x : AnyV H0 G n v) (k : Same G G') : AnyV H0 G' n v := x.on (fun _ z => z) fun a o _ e => k a o e
/-- many values -/
structure GoodVs (n : Nat) (ds : List PyData) : Prop where
  sh : PyData.showableAll ds = true
  dp : PyData.depthAll ds ≤ 2 * n + 1
  ln : ((PyData.shownAll ds).map (·.length)).sum ≤ 3 * shownMost n
  len : (PyData.shownAll ds).length ≤ 3
theorem all_any {H0 G : Hp} {n : Nat} : ∀ {vs : List V}, (∀ v ∈ vs, AnyV H0 G n v) → ∃ ds, ShAll G (fun a => H0 a ≠ none) vs ds ∧ PyData.showableAll ds = true ∧ PyData.depthAll ds ≤ 2 * n + 1 ∧ ((PyData.shownAll ds).map (·.length)).sum ≤ vs.length * shownMost n ∧ (PyData.shownAll ds).length = vs.length
  | [], _ => ⟨[], .nil, by simp [PyData.showableAll], by simp [PyData.depthAll], by simp [PyData.shownAll], by simp [PyData.shownAll]⟩
  | v :: r, h => by
    obtain ⟨ds, h1, h2, h3, h4, h5⟩ := all_any (vs := r) fun u hu => h u (List.mem_cons_of_mem _ hu)
    obtain ⟨d, a, g, s⟩ := h v List.mem_cons_self
    refine ⟨d :: ds, .cons a h1, by simp [PyData.showableAll, g.sh, h2], ?_, ?_, by simp [PyData.shownAll, h5]⟩
    · have := g.dp
      simp only [PyData.depthAll]
      omega
    · have := g.ln
      simp only [PyData.shownAll, List.map_cons, List.sum_cons, List.length_cons, Nat.succ_mul]
      omega
theorem parts_tup {H0 G : Hp} {a : Addr} {n : Nat} {vs : List V} (h : ∀ v ∈ vs, AnyV H0 G n v) (len : vs.length ≤ 3) (e : G a = some (.tup vs)) (nb : H0 a = none) : AnyV H0 G (n + 1) (.ref a) := by
  obtain ⟨ds, h1, h2, h3, h4, h5⟩ := all_any h
  have m : vs.length * shownMost n ≤ 3 * shownMost n := Nat.mul_le_mul_right _ len
  refine ⟨.tuple ds, .tup e (fun z => z nb) h1, ⟨by simpa [PyData.showable] using h2, ?_, ?_⟩, trivial⟩
  · simp only [PyData.depth]
    omega
  · have := tupleText_len_le (PyData.shownAll ds)
    simp only [PyData.shown]
    rw [shownMost]
    omega
theorem parts_lst {H0 G : Hp} {a : Addr} {n : Nat} {vs : List V} (h : ∀ v ∈ vs, AnyV H0 G n v) (len : vs.length ≤ 3) (e : G a = some (.lst vs)) (nb : H0 a = none) : ∃ d, Sh G (fun a => H0 a ≠ none) (.ref a) d ∧ d.showable = true ∧ d.depth ≤ 2 * n + 2 ∧ d.shown.length ≤ 3 * shownMost n + 30 := by
  obtain ⟨ds, h1, h2, h3, h4, h5⟩ := all_any h
  have m : vs.length * shownMost n ≤ 3 * shownMost n := Nat.mul_le_mul_right _ len
  refine ⟨.list ds, .lst e (fun z => z nb) h1, by simpa [PyData.showable] using h2, ?_, ?_⟩
  · simp only [PyData.depth]
    omega
  · have := listText_len_le (PyData.shownAll ds)
    simp only [PyData.shown]
    omega
theorem parts_list {H0 G : Hp} {a : Addr} {n : Nat} {vs : List V} (h : ∀ v ∈ vs, AnyV H0 G n v) (len : vs.length ≤ 3) (e : G a = some (.lst vs)) (nb : H0 a = none) : AnyV H0 G (n + 1) (.ref a) := by
  obtain ⟨d, h1, h2, h3, h4⟩ := parts_lst h len e nb
  refine ⟨d, h1, ⟨h2, by omega, ?_⟩, trivial⟩
  rw [shownMost]
  omega
theorem parts_dict {H0 G : Hp} {a q : Addr} {n : Nat} {vs : List V} (h : ∀ v ∈ vs, AnyV H0 G n v) (len : vs.length ≤ 3) (e : G a = some (.lst vs)) (nb : H0 a = none) (eq : G q = some (.dK [(Sum.inr "a", .ref a)])) (nq : H0 q = none) : AnyV H0 G (n + 1) (.ref q) := by
  obtain ⟨d, h1, h2, h3, h4⟩ := parts_lst h len e nb
  refine ⟨_, .dic1 eq (fun z => z nq) h1, ⟨by simp [PyData.showable, PyData.showableKv, h2], ?_, ?_⟩, trivial⟩
  · simp only [PyData.depth, PyData.depthKv]
    omega
  · have h1 := dictText_len_le [reprText "a" ++ ": " ++ d.shown]
    have hx : (reprText "a").length ≤ 10 := by decide +kernel
    have h3 : (reprText "a" ++ ": " ++ d.shown).length = (reprText "a").length + 2 + d.shown.length := by
      rw [strLen_append, strLen_append]
      rfl
    simp only [PyData.shown, PyData.shownKv]
    simp [h3] at h1
    rw [shownMost]
    omega
def acost : Nat → Nat
  | 0 => 0
  | n + 1 => 3 + 3 * acost n
def spAnyD (n : Nat) : Sp := fun vs H Q _ => ∃ (b : Addr) (c : Int) (k : Nat), n = k + 1 ∧ vs = [.ref b, .int (k : Int)] ∧ Box c H b ∧ c + acost n ≤ 200000 ∧ ∀ H' v, Kept b H H' → Box (c + acost n) H' b → AnyV H H' k v → Q v H'
/-- what is drawn at the end -/
def leaves (t l d : Addr) : List V := [.non, .bl true, .bl false, .int 0, .int 1, .int (-1), .int (10 ^ 8), .str "", .str "value", .str "main", .str "rows", .str "a", .ref t, .ref l, .ref d]
theorem leaf_any {H0 G : Hp} {t l d : Addr} (ht : G t = some (.tup [])) (hl : G l = some (.lst [])) (hd : G d = some (.dK [])) (nt : H0 t = none) (nl : H0 l = none) (nd : H0 d = none) : ∀ v ∈ leaves t l d, AnyV H0 G 0 v := by
  have S : ∀ x : Str, (reprText x).length ≤ 12 → x.length ≤ 10 → (cp x).all (fun c => decide (c < 128)) = true → AnyV H0 G 0 (.str x) := fun x h1 h2 h3 => ⟨_, .str x, ⟨by simp [PyData.showable], by simp [PyData.depth], by show (PyData.str x).shown.length ≤ 12; simpa only [PyData.shown] using h1⟩, h2, fun c hc => of_decide_eq_true (List.all_eq_true.mp h3 c hc)⟩
  have I : ∀ i : Int, (PyData.int i).showable = true → (PyData.int i).shown.length ≤ 12 → AnyV H0 G 0 (.int i) := fun i h1 h2 => ⟨_, .int i, ⟨h1, by simp [PyData.depth], h2⟩, trivial⟩
  intro v hv
  simp only [leaves, List.mem_cons, List.not_mem_nil, or_false] at hv
  rcases hv with h | h | h | h | h | h | h | h | h | h | h | h | h | h | h <;> subst h
  · exact ⟨_, .non, ⟨by decide +kernel, by decide +kernel, by decide +kernel⟩, trivial⟩
  · exact ⟨_, .bl _, ⟨by decide +kernel, by decide +kernel, by decide +kernel⟩, trivial⟩
  · exact ⟨_, .bl _, ⟨by decide +kernel, by decide +kernel, by decide +kernel⟩, trivial⟩
  · exact I _ (by decide +kernel) (by decide +kernel)
  · exact I _ (by decide +kernel) (by decide +kernel)
  · exact I _ (by decide +kernel) (by decide +kernel)
  · exact I _ (by decide +kernel) (by decide +kernel)
  · exact S _ (by decide +kernel) (by decide +kernel) (by decide +kernel)
  · exact S _ (by decide +kernel) (by decide +kernel) (by decide +kernel)
  · exact S _ (by decide +kernel) (by decide +kernel) (by decide +kernel)
  · exact S _ (by decide +kernel) (by decide +kernel) (by decide +kernel)
  · exact S _ (by decide +kernel) (by decide +kernel) (by decide +kernel)
  · exact ⟨_, .tup ht (fun z => z nt) .nil, ⟨by decide +kernel, by decide +kernel, by decide +kernel⟩, trivial⟩
  · exact ⟨_, .lst hl (fun z => z nl) .nil, ⟨by decide +kernel, by decide +kernel, by decide +kernel⟩, trivial⟩
  · exact ⟨_, .dic0 hd (fun z => z nd), ⟨by decide +kernel, by decide +kernel, by decide +kernel⟩, trivial⟩
section
variable {P : Program} {w : World} {K : PySem.W.Frag} {mg : Str → Option Value} {base : Heap}
theorem any_step {n : Nat} {f fT fO : Addr} {fd fdT fdO : FuncData} (F : Fun K "_law_any" "_law_any" sAny f fd) (Z : Bare mg) (mT : mg "tuple" = none)
    (kT : PySem.W.keepIn K (.ref fT) = true) (bT : Binds K fdT ["_law_box_here", "_law_many"] []) (gT : mg "_law_take" = some (.ref fT)) (GT : FnOk P w K mg base CX0 1 fT fdT ["_law_box_here", "_law_many"] spTake)
    (kO : PySem.W.keepIn K (.ref fO) = true) (bO : Binds K fdO ["_law_box_here", "_law_some"] []) (gO : mg "_law_of" = some (.ref fO)) (GO : FnOk P w K mg base CX0 2 fO fdO ["_law_box_here", "_law_some"] spOf)
    (kR : PySem.W.keepIn K (.ref f) = true) (bR : Binds K fd ["_law_box_here", "_law_deep"] []) (gR : mg "_law_any" = some (.ref f)) (GR : FnOk P w K mg base CX0 (2 + n) f fd ["_law_box_here", "_law_deep"] (spAnyD n)) :
    FnOk P w K mg base CX0 (2 + (n + 1)) f fd ["_law_box_here", "_law_deep"] (spAnyD (n + 1)) := by
  refine F.ok scAny (fun vs H Q E h => ?_) (fun cdv A outer s H vs Q E hr h => ?_)
  · obtain ⟨b, c, k, _, rfl, _⟩ := h
    rfl
  · obtain ⟨b, c, k, e, rfl, hb, hc, q⟩ := h
    cases e
    have hr1 := hr.mono (show 1 ≤ 2 + n by omega)
    have hr2 := hr.mono (show 2 ≤ 2 + n by omega)
    refine ⟨_, pss_cons (ps_set (i := 2) scAny.nd rfl (.inl rfl) (pe_lst (pa_cons pe_non (pa_cons pe_bl (pa_cons pe_bl (pa_cons pe_int (pa_cons pe_int (pa_cons (pe_un un_neg pe_int) (pa_cons (pe_op op_pow pe_int pe_int)
        (pa_cons pe_str (pa_cons pe_str (pa_cons pe_str (pa_cons pe_str (pa_cons pe_str (pa_cons (pe_tup pa_nil) (pa_cons (pe_lst pa_nil) (pa_cons pe_dnewK pa_nil)))))))))))))))))
      (pss_cons (ps_if (PW.pt (pw_or (pt_cmpR op_eq (pv 1) pe_int (nomark _)) (pw_or1 (pt_cmpR op_eq (pe_call GT hr1 (by rfl) gT kT bT .nil pass0 (pa_cons (pv 0) (pa_cons pe_int pa_nil))) pe_int (nomark _)))))
        (pss_one (ps_ret (pe_call GO hr2 (by rfl) gO kO bO .nil pass0 (pa_cons (pv 0) (pa_cons (pv 2) pa_nil))))) pss_nil)
      (pss_cons (ps_setLc (i := 3) (own := [("_law_turn", 4)]) (g := gName 4) (tt := tYes) rfl scAny.nd rfl rfl (sw_true rfl rfl rfl (by decide +kernel)) (pi_range1 (by rfl) Z.range (pa_cons (pe_call GT hr1 (by rfl) gT kT bT .nil pass0 (pa_cons (pv 0) (pa_cons pe_int pa_nil))) pa_nil))
          (blkOk_by (N := ["_law_box_here", "_law_deep", "_law_some", "_law_parts", "_law_turn"]) (sc := defScope sAny) (by decide +kernel))
          (fun _ _ _ _ _ => pg_name (i := 4) scAny.nd rfl (Or.inl rfl)) (fun _ _ _ _ _ => pts_nil)
          (fun _ _ _ _ _ => pe_call GR hr (by rfl) gR kR bR .nil pass0 (pa_cons (pv 0) (pa_cons (pe_op op_sub (pv 1) pe_int) pa_nil))))
      (pss_one (ps_ret (pe_call GO hr2 (by rfl) gO kO bO .nil pass0 (pa_cons (pv 0) (pa_cons (pe_lst (pa_cons (pe_callTy call_tuple_of (by rfl) mT (by decide +kernel) (pa_cons (pv 3) pa_nil))
        (pa_cons (pe_callTy call_tuple_of (by rfl) mT (by decide +kernel) (pa_cons (pv 3) pa_nil)) (pa_cons (pv 3) (pa_cons (pe_disp (pps_cons pe_str (pv 3) pps_nil) rfl rfl (by simp) (by decide)) pa_nil))))) pa_nil))))))), ?_⟩
    have ec : acost (n + 1) = 3 + 3 * acost n := rfl
    refine ⟨_, rfl, _, _, rfl, rfl, ⟨by decide, by decide, by decide⟩, by show 0 ≤ _; decide, fun t0 n0 => ?_⟩
    obtain ⟨s0, g0, _⟩ := grow (o := .tup []) n0
    generalize upd H t0 (.tup []) = H0 at s0 g0 ⊢
    refine ⟨by show 0 ≤ _; decide, fun l1 n1 => ?_⟩
    obtain ⟨s1, g1, _⟩ := grow (o := .lst []) n1
    generalize upd H0 l1 (.lst []) = H1 at s1 g1 ⊢
    intro d2 n2
    obtain ⟨s2, g2, _⟩ := grow (o := .dK []) n2
    show tNil _ (upd H1 d2 (.dK [])) _
    generalize upd H1 d2 (.dK []) = H2 at s2 g2 ⊢
    refine ⟨by show 15 ≤ _; decide, fun L n3 => ?_⟩
    obtain ⟨s3, g3, _⟩ := grow (o := .lst (leaves t0 l1 d2)) n3
    show gName 2 (.ref L) _ (upd H2 L (.lst (leaves t0 l1 d2))) _
    generalize upd H2 L (.lst (leaves t0 l1 d2)) = H3 at s3 g3 ⊢
    have lv := leaf_any (H0 := H) (s3 _ _ (s2 _ _ (s1 _ _ g0))) (s3 _ _ (s2 _ _ g1)) (s3 _ _ g2) n0 (s0.free n1) (s0.free (s1.free n2))
    have hbn := hb.some
    have nLb := (((hb.at s0).at s1).at s2).nelst n3
    have ss := s0.trans (s1.trans (s2.trans s3))
    have b3 := hb.at ss
    -- a leaf
    have leaf : ∀ (G : Hp), Kept b H3 G → Box (c + 2) G b → tRet (tCall spOf [] E0 (tCons (tVar 0) (tCons (tVar 2) tNil))) { nx := fun x H' => Q V.non H', rt := Q } [some (.ref b), some (.int (n : Int)), some (.ref L), none, none] G := fun G kG bG => by
      refine ⟨_, rfl, _, rfl, b, L, _, _, rfl, bG, kG _ _ g3 nLb, nLb, by show 1 ≤ 15; decide, by show 15 ≤ _; decide, by omega, fun G' v k' b' hv => ?_⟩
      exact q G' v (((keptS ss).trans kG).trans k') (b'.le (by omega)) (((lv v hv).kept hbn (kG.trans k')).le (Nat.zero_le _))
    refine ⟨.int (n : Int), rfl, rfl, _, rfl, ite2 (fun e => ?_) (fun e => ?_)⟩
    · exact iteT (leaf H3 (Kept.refl b H3) (b3.le (by omega)))
    · have n0' : n ≠ 0 := by
        rintro rfl
        exact e (decide_eq_true rfl)
      refine ⟨_, rfl, b, 2, c, rfl, b3, by decide, by decide, by omega, fun H4 r k4 b4 r0 r2 => ⟨rfl, _, rfl, ite2 (fun e2 => ?_) (fun e2 => ?_)⟩⟩
      · exact leaf H4 k4 (b4.le (by omega))
      · obtain ⟨k, rfl⟩ : ∃ k, n = k + 1 := ⟨n - 1, by omega⟩
        have ek : (((k + 1 : Nat) : Int) - 1) = (k : Int) := by omega
        have fr : ∀ {G : Hp} {a : Addr}, Kept b H G → G b ≠ none → G a = none → H a = none := fun {G a} kG gb z => by
          cases e : H a with
          | none => rfl
          | some o =>
            by_cases ab : a = b
            · subst ab
              exact absurd z gb
            · rw [kG _ _ e ab] at z
              cases z
        have k04 := (keptS ss).trans k4
        refine ⟨_, rfl, b, 4, _, rfl, b4, by decide, by decide, by omega, fun G5 m k5 b5 m0 m4 => ⟨m, rfl, by omega, by omega, fun Lr nL => ?_⟩⟩
        have nLr : b ≠ Lr := Ne.symm (b5.nelst nL)
        refine lc_it walk_range (fun j G => ∃ us : List V, Kept b G5 G ∧ Box (c + 2 + (acost (k + 1) : Int) * j) G b ∧ G Lr = some (.lst us) ∧ us.length = j ∧ ∀ v ∈ us, AnyV (upd G5 Lr (.lst [])) G k v)
          ⟨[], keptS (same_upd nL), (b5.at (same_upd nL)).le (by omega), upd_same, rfl, fun v hv => (List.not_mem_nil hv).elim⟩ (fun _ _ _ _ => True.intro) ?_ ?_
        · rintro j x G G' hj ⟨us, kG, bG, gL, lu, hu⟩ ⟨rfl, rfl⟩
          have cj : (acost (k + 1) : Int) * ((j + 1 : Nat) : Int) = (acost (k + 1) : Int) * (j : Int) + (acost (k + 1) : Int) := by
            rw [Int.natCast_add, Int.mul_add]
            show _ + _ * 1 = _
            rw [Int.mul_one]
          have cm : (acost (k + 1) : Int) * ((j + 1 : Nat) : Int) ≤ (acost (k + 1) : Int) * 3 := Int.mul_le_mul_of_nonneg_left (by omega) (by omega)
          refine ⟨rfl, _, rfl, _, rfl, _, _, rfl, rfl, b, _, k, rfl, by show [V.ref b, V.int (((k + 1 : Nat) : Int) - 1)] = _; rw [ek], bG, by omega, fun G6 v k6 b6 av => ?_⟩
          have g6 := k6 _ _ gL (Ne.symm nLr)
          refine ⟨us, g6, Nat.lt_of_le_of_lt (show us.length ≤ 4 by omega) (by decide), us ++ [v], ?_, ?_, upd_same, by rw [List.length_append, lu]; rfl, fun v' hv' => ?_⟩
          · intro a o ha na
            rw [upd_ne (ne_of_none ha nL)]
            exact (kG.trans k6) _ _ ha na
          · obtain ⟨o, m', n', e', h1, h2, h3, h4⟩ := b6
            refine ⟨o, m', n', ?_, h1, h2, h3, by omega⟩
            rw [upd_ne nLr]
            exact e'
          · have nl : ∀ {a : Addr}, upd G5 Lr (.lst []) a = none → a ≠ Lr ∧ a ≠ b := fun {a} z => by
              constructor
              · rintro rfl
                rw [upd_same] at z
                cases z
              · rintro rfl
                rw [upd_ne nLr] at z
                exact b5.some z
            rcases List.mem_append.mp hv' with hv' | hv'
            · refine (hu v' hv').on (fun _ z => z) fun a o na e => ?_
              rw [upd_ne (nl na).1]
              exact k6 _ _ e (nl na).2
            · rw [List.mem_singleton.mp hv']
              refine av.on (fun a z => ?_) fun a o na e => ?_
              · by_cases e : a = Lr
                · rw [e, gL]
                  simp
                · by_cases e2 : a = b
                  · rw [e2]
                    exact bG.some
                  · rw [upd_ne e] at z
                    cases e3 : G5 a with
                    | none => exact absurd e3 z
                    | some o =>
                      rw [kG _ _ e3 e2]
                      simp
              · have : a ≠ Lr := by
                  rintro rfl
                  rw [gL] at na
                  cases na
                rw [upd_ne this]
                exact e
        · rintro G ⟨us, kG, bG, gL, lu, hu⟩
          have cm : (acost (k + 1) : Int) * (m.toNat : Int) ≤ (acost (k + 1) : Int) * 3 := Int.mul_le_mul_of_nonneg_left (by omega) (by omega)
          have bG := bG.le (show c + 2 + (acost (k + 1) : Int) * (m.toNat : Int) ≤ c + 2 + (acost (k + 1) : Int) * 3 by omega)
          have k05 := (k04.trans k5).trans kG
          have l3 : us.length ≤ 3 := by omega
          have fL : H Lr = none := fr (k04.trans k5) b5.some nL
          have hu : ∀ v ∈ us, AnyV H G k v := fun v hv => (hu v hv).on (fun a z => by
            by_cases e : a = Lr
            · rw [e, upd_same]
              simp
            · rw [upd_ne e]
              intro z2
              exact z (fr (k04.trans k5) b5.some z2)) fun _ _ _ e => e
          have gn := bG.some
          refine ⟨_, rfl, _, rfl, Lr, us, rfl, .inl ⟨SqL.of gL, fun p1 n1 => ?_⟩⟩
          obtain ⟨t1, h1, _⟩ := grow (o := .tup us) n1
          generalize upd G p1 (.tup us) = G1 at t1 h1 ⊢
          refine ⟨_, rfl, Lr, us, rfl, .inl ⟨SqL.of (t1 _ _ gL), fun p2 n2 => ?_⟩⟩
          obtain ⟨t2, h2, _⟩ := grow (o := .tup us) n2
          show tCons _ _ _ (upd G1 p2 (.tup us)) _
          generalize upd G1 p2 (.tup us) = G2 at t2 h2 ⊢
          refine ⟨_, rfl, ?_⟩
          intro p3 n3
          refine ⟨_, rfl, upd_same, [(Sum.inr "a", .ref Lr)], rfl, (by show 1 ≤ 15; decide), ?_⟩
          rw [upd_upd]
          obtain ⟨t3, h3, _⟩ := grow (o := .dK [(Sum.inr "a", .ref Lr)]) n3
          show tNil _ (upd G2 p3 (.dK [(Sum.inr "a", .ref Lr)])) _
          generalize upd G2 p3 (.dK [(Sum.inr "a", .ref Lr)]) = G3 at t3 h3 ⊢
          refine ⟨by show 4 ≤ _; decide, fun l4 n4 => ?_⟩
          obtain ⟨t4, h4, _⟩ := grow (o := .lst [.ref p1, .ref p2, .ref Lr, .ref p3]) n4
          show tNil _ (upd G3 l4 (.lst [.ref p1, .ref p2, .ref Lr, .ref p3])) _
          generalize upd G3 l4 (.lst [.ref p1, .ref p2, .ref Lr, .ref p3]) = G4 at t4 h4 ⊢
          have t14 := t1.trans (t2.trans (t3.trans t4))
          have b13 := bG.at (t1.trans (t2.trans t3))
          refine ⟨b, l4, _, _, rfl, bG.at t14, h4, b13.nelst n4, by show 1 ≤ 4; decide, by show 4 ≤ _; decide, by omega, fun G' v k' b' hv => ?_⟩
          have hu4 : ∀ v ∈ us, AnyV H G4 k v := fun v hv => (hu v hv).same t14
          have all : AnyV H G4 (k + 1) v := by
            simp only [List.mem_cons, List.not_mem_nil, or_false] at hv
            rcases hv with rfl | rfl | rfl | rfl
            · exact parts_tup hu4 l3 ((t2.trans (t3.trans t4)) _ _ h1) (fr k05 gn n1)
            · exact parts_tup hu4 l3 ((t3.trans t4) _ _ h2) (fr k05 gn (t1.free n2))
            · exact parts_list hu4 l3 (t14 _ _ gL) fL
            · exact parts_dict hu4 l3 (t14 _ _ gL) fL (t4 _ _ h3) (fr k05 gn (t1.free (t2.free n3)))
          exact q G' v ((k05.trans (keptS t14)).trans k') (b'.le (by omega)) (all.kept hbn k')
theorem ok_anyD {f fT fO : Addr} {fd fdT fdO : FuncData} (F : Fun K "_law_any" "_law_any" sAny f fd) (Z : Bare mg) (mT : mg "tuple" = none)
    (kT : PySem.W.keepIn K (.ref fT) = true) (bT : Binds K fdT ["_law_box_here", "_law_many"] []) (gT : mg "_law_take" = some (.ref fT)) (GT : FnOk P w K mg base CX0 1 fT fdT ["_law_box_here", "_law_many"] spTake)
    (kO : PySem.W.keepIn K (.ref fO) = true) (bO : Binds K fdO ["_law_box_here", "_law_some"] []) (gO : mg "_law_of" = some (.ref fO)) (GO : FnOk P w K mg base CX0 2 fO fdO ["_law_box_here", "_law_some"] spOf)
    (kR : PySem.W.keepIn K (.ref f) = true) (bR : Binds K fd ["_law_box_here", "_law_deep"] []) (gR : mg "_law_any" = some (.ref f)) :
    ∀ n : Nat, FnOk P w K mg base CX0 (2 + n) f fd ["_law_box_here", "_law_deep"] (spAnyD n)
  | 0 => ⟨fun vs H Q E h => by obtain ⟨_, _, _, h, _⟩ := h; exact absurd h (by omega), fun A outer s H args us vs Q E _ _ _ _ h => by obtain ⟨_, _, _, h, _⟩ := h; exact absurd h (by omega)⟩
  | n + 1 => any_step F Z mT kT bT gT GT kO bO gO GO kR bR gR (ok_anyD F Z mT kT bT gT GT kO bO gO GO kR bR gR n)
end
end K9

set_option maxHeartbeats 400000
/-! The law. -/
namespace K9
open PySem PySem.Spec PyProof.Rows L2 K2

theorem scLaw : FnScope ["_law_script", "_law_k", "_law_box_here", "_law_value", "_law_told", "_law_some", "_law_deep", "_law_page", "_law_turn", "_law_many"] ["_law_script"] (defScope sLaw) := ⟨rfl, rfl, rfl, by decide +kernel, rfl, by decide +kernel, by decide +kernel⟩
def spLaw (K : PySem.W.Frag) : Sp := fun vs H Q _ => ∃ (a : Addr) (ns : List Int), vs = [.ref a] ∧ SqL K H a (ns.map V.int) ∧ ns.length ≤ 63 ∧ ∀ H', Q (.bl true) H'
theorem iteF' {c : Bool} {A B : Prop} (h : c = false) (b : B) : if c = true then A else B := by
  rw [h]
  exact iteF b
/-- a value that may be asked -/
def TV (K : PySem.W.Frag) (G : Hp) (v : V) : Prop := (∃ x, v = .str x ∧ x.length ≤ 10 ∧ Small (cp x)) ∨ ((∀ x, v ≠ .str x) ∧ ∃ T d S, TyX K G v (.type T) ∧ PySem.W.kitOne K (.type T) (.type "str") = some false ∧ kitB T "str" = some false ∧ Sh G S v d ∧ Shown d)
theorem TV.same {K : PySem.W.Frag} {G G' : Hp} {v : V} (h : TV K G v) (s : Same G G') : TV K G' v := by
  rcases h with h | ⟨n, T, d, S, t, k1, k, sh, g⟩
  · exact .inl h
  · exact .inr ⟨n, T, d, S, tyx_same t s, k1, k, sh.same s, g⟩
theorem tv_of {K : PySem.W.Frag} {H0 G : Hp} {v : V} (x : AnyV H0 G 2 v) : TV K G v := by
  obtain ⟨d, sh, g, s⟩ := x
  have shn : Shown d := ⟨g.sh, Nat.le_trans g.dp (by decide), Nat.le_trans g.ln (by decide)⟩
  cases sh with
  | non => exact .inr ⟨(fun _ e => nomatch e), "NoneType", _, (fun a => H0 a ≠ none), .base .non, by rfl, by decide +kernel, .non, shn⟩
  | bl b => exact .inr ⟨(fun _ e => nomatch e), "bool", _, (fun a => H0 a ≠ none), .base (.bl b), by rfl, by decide +kernel, .bl b, shn⟩
  | int i => exact .inr ⟨(fun _ e => nomatch e), "int", _, (fun a => H0 a ≠ none), .base (.int i), by rfl, by decide +kernel, .int i, shn⟩
  | str x => exact .inl ⟨x, rfl, s.1, s.2⟩
  | lst h n t => exact .inr ⟨(fun _ e => nomatch e), "list", _, (fun a => H0 a ≠ none), .base (.lst h), by rfl, by decide +kernel, .lst h n t, shn⟩
  | tup h n t => exact .inr ⟨(fun _ e => nomatch e), "tuple", _, (fun a => H0 a ≠ none), .base (.tup h), by rfl, by decide +kernel, .tup h n t, shn⟩
  | dic0 h n => exact .inr ⟨(fun _ e => nomatch e), "dict", _, (fun a => H0 a ≠ none), .base (.dK h), by rfl, by decide +kernel, .dic0 h n, shn⟩
  | dic1 h n t => exact .inr ⟨(fun _ e => nomatch e), "dict", _, (fun a => H0 a ≠ none), .base (.dK h), by rfl, by decide +kernel, .dic1 h n t, shn⟩
/-- the word that is told of a value -/
theorem asked_word {K : PySem.W.Frag} {fE fP f : Addr} {few : List Nat → Prop} {rd : List Nat → Option (List D)} {G : Hp} {v : V} {Q : VK} (rr : Reader fE fP f few rd) (tv : TV K G v)
    (q : ∀ G' w, Same G G' → ((∀ x, v ≠ .str x) → w = Str.ofString "none") → Q (.str w) G') : spAsked K fE fP [.ref f, v] G (fun x H1 => rIxT K x (.int 0) H1 Q) E0 := by
  rcases tv with ⟨x, rfl, l, sm⟩ | ⟨n, T, d, S, t, k1, k, sh, g⟩
  · have ll := cp_len x
    have c : few (cp x) := by
      rcases rr with ⟨_, e, _⟩ | ⟨_, e, _⟩
      · rw [e]
        trivial
      · rw [e]
        show cnt 0 (cp x) < 62
        have : ∀ (l : List Nat) (st : Nat), cnt st l ≤ l.length := by
          intro l
          induction l with
          | nil => intro st; exact Nat.le_refl _
          | cons a r ih =>
            intro st
            have h1 := ih 1
            have h2 := ih 2
            have h0 := ih 0
            rw [cnt, List.length_cons]
            split
            · omega
            · split
              · omega
              · split <;> omega
        have := this (cp x) 0
        omega
    have m : most = 524288 := by decide
    refine .inl ⟨f, few, rd, x, rfl, rr, by omega, c, ?_, fun H' t v ds e s ht rv => ?_, fun e H' t s ht => ?_⟩
    · have := StrLaws.reprText_len x fun c hc => Nat.lt_trans (sm c hc) (by decide)
      have s : 10000000 ≤ sizeLine := by decide
      omega
    · exact ⟨t, _, 0, _, rfl, rfl, SqT.of ht, atI_nat (j := 0) rfl, q H' _ s fun n => absurd rfl (n x)⟩
    · exact ⟨t, _, 0, _, rfl, rfl, SqT.of ht, atI_nat (j := 0) rfl, q H' _ s fun n => absurd rfl (n x)⟩
  · exact .inr ⟨f, few, rd, v, T, d, S, rfl, rr, t, k, sh, g, fun H' t s ht => ⟨t, _, 0, _, rfl, rfl, SqT.of ht, atI_nat (j := 0) rfl, q H' _ s fun _ => rfl⟩⟩
/-- a text that is none -/
theorem asked_none {K : PySem.W.Frag} {fE fP f : Addr} {few : List Nat → Prop} {rd : List Nat → Option (List D)} {G : Hp} {x : Str} {Q : VK} (rr : Reader fE fP f few rd) (no : rd (cp x) = none) (fw : few (cp x)) (sm : Small (cp x)) (len : (cp x).length ≤ 20000)
    (q : ∀ G', Same G G' → Q (.str "none") G') : spAsked K fE fP [.ref f, .str x] G (fun y H1 => rIxT K y (.int 0) H1 Q) E0 := by
  have ll := cp_len x
  have m : most = 524288 := by decide
  refine .inl ⟨f, few, rd, x, rfl, rr, by omega, fw, ?_, fun H' t v ds e s ht rv => ?_, fun e H' t s ht => ?_⟩
  · have := StrLaws.reprText_len x fun c hc => Nat.lt_trans (sm c hc) (by decide)
    have s : 10000000 ≤ sizeLine := by decide
    omega
  · rw [no] at e
    cases e
  · exact ⟨t, _, 0, _, rfl, rfl, SqT.of ht, atI_nat (j := 0) rfl, q H' s⟩
def tA : List Str := ["", " ", "- ", "--", "set", "set main/a", "set main/a -0", "set main/a 01", "set main/a \"", "set main/a 1 "]
def tB_ : List Str := ["set  main/a 1", "set main/a 1;take main/b #0", "take main/a 0", "take main/a #00", "go"]
def tC_ : List Str := ["put main/a 0 #0 { a: 1}", "put main/a 0 #0 {}", "put main/a 0 #0 { a: { } }x"]
def tD_ : List Str := ["", "set main/a 1", "gone main//a 1", "order main/a", "order main/a #1 -", "order main//a #1"]
def tE_ : List Str := ["set main//b 1; set main//a 1", "gone main//a; set main//a 1", "order main/a #1; order main/a #2"]
def tX : Str := "carry main/a #0 main/b"
def deepS (k : Nat) : Str := ((Str.ofString "put main/a 0 #0 " ++ Txt.mul "{ a: " (k : Int)) ++ Str.ofString "1") ++ Txt.mul " }" (k : Int)
def rowsS : Str := ((Str.ofString "put main/a 0 #0 " ++ Txt.mul "{ a: [ #0 " ((600 : Nat) : Int)) ++ Str.ofString "{ }") ++ Txt.mul " ] }" ((600 : Nat) : Int)
theorem mul_len {z : Str} {k : Nat} (h : 2 ≤ k) (hz : z.length ≠ 0) : (Txt.mul z (k : Int)).length = k * z.length := by
  rw [← cp_len, cp_mul z k h hz, ← cp_len]
  simp
theorem mul_small {z : Str} {k : Nat} (h : 2 ≤ k) (hz : z.length ≠ 0) (s : Small (cp z)) : Small (cp (Txt.mul z (k : Int))) := fun c hc => by
  rw [cp_mul z k h hz] at hc
  obtain ⟨l, hl, hc⟩ := List.mem_flatten.mp hc
  rw [(List.mem_replicate.mp hl).2] at hc
  exact s c hc
theorem small_app {x y : Str} (hx : Small (cp x)) (hy : Small (cp y)) : Small (cp (x ++ y)) := fun c hc => by
  rw [cp_app] at hc
  rcases List.mem_append.mp hc with hc | hc
  · exact hx c hc
  · exact hy c hc
theorem small_dec {x : Str} (h : (cp x).all (fun c => decide (c < 128)) = true) : Small (cp x) := fun c hc => of_decide_eq_true (List.all_eq_true.mp h c hc)
theorem app_len (x y : Str) : (x ++ y).length = x.length + y.length := by rw [← cp_len, cp_app, List.length_append, cp_len, cp_len]
/-- a text that is no edit -/
def NoE (x : Str) : Prop := rEdit (cp x) = none ∧ Small (cp x) ∧ (cp x).length ≤ 20000
def NoP (x : Str) : Prop := rPlan (cp x) = none ∧ Small (cp x) ∧ (cp x).length ≤ 60
theorem deepS_no {k : Nat} (h : 41 ≤ k) (h2 : k ≤ 1200) : NoE (deepS k) ∧ (Txt.mul "{ a: " (k : Int)).length ≤ 6000 ∧ (Txt.mul " }" (k : Int)).length ≤ 2400 := by
  have l1 := mul_len (z := "{ a: ") (k := k) (by omega) (by decide +kernel)
  have l2 := mul_len (z := " }") (k := k) (by omega) (by decide +kernel)
  have e1 : (Str.ofString "{ a: ").length = 5 := by decide +kernel
  have e2 : (Str.ofString " }").length = 2 := by decide +kernel
  have e3 : (Str.ofString "put main/a 0 #0 ").length = 16 := by decide +kernel
  have e4 : (Str.ofString "1").length = 1 := by decide +kernel
  rw [e1] at l1
  rw [e2] at l2
  refine ⟨⟨deep_text k h, small_app (small_app (small_app (small_dec (by decide +kernel)) (mul_small (by omega) (by decide +kernel) (small_dec (by decide +kernel)))) (small_dec (by decide +kernel))) (mul_small (by omega) (by decide +kernel) (small_dec (by decide +kernel))), ?_⟩, by omega, by omega⟩
  rw [cp_len, deepS, app_len, app_len, app_len]
  omega
theorem rowsS_no : NoE rowsS ∧ (Txt.mul "{ a: [ #0 " ((600 : Nat) : Int)).length ≤ 6000 ∧ (Txt.mul " ] }" ((600 : Nat) : Int)).length ≤ 2400 := by
  have l1 := mul_len (z := "{ a: [ #0 ") (k := 600) (by omega) (by decide +kernel)
  have l2 := mul_len (z := " ] }") (k := 600) (by omega) (by decide +kernel)
  have e1 : (Str.ofString "{ a: [ #0 ").length = 10 := by decide +kernel
  have e2 : (Str.ofString " ] }").length = 4 := by decide +kernel
  have e3 : (Str.ofString "put main/a 0 #0 ").length = 16 := by decide +kernel
  have e4 : (Str.ofString "{ }").length = 3 := by decide +kernel
  rw [e1] at l1
  rw [e2] at l2
  refine ⟨⟨deep_rows, small_app (small_app (small_app (small_dec (by decide +kernel)) (mul_small (by omega) (by decide +kernel) (small_dec (by decide +kernel)))) (small_dec (by decide +kernel))) (mul_small (by omega) (by decide +kernel) (small_dec (by decide +kernel))), ?_⟩, by omega, by omega⟩
  rw [cp_len, rowsS, app_len, app_len, app_len]
  omega
theorem known_e : ∀ x ∈ tA ++ tB_ ++ tC_ ++ [tX], NoE x := by
  have : ∀ x ∈ tA ++ tB_ ++ tC_ ++ [tX], (rEdit (cp x)).isNone = true ∧ (cp x).all (fun c => decide (c < 128)) = true ∧ (cp x).length ≤ 20000 := by decide +kernel
  intro x hx
  obtain ⟨h1, h2, h3⟩ := this x hx
  exact ⟨by simpa using h1, small_dec h2, h3⟩
theorem known_p : ∀ x ∈ tD_ ++ tE_, NoP x := by
  have : ∀ x ∈ tD_ ++ tE_, (rPlan (cp x)).isNone = true ∧ (cp x).all (fun c => decide (c < 128)) = true ∧ (cp x).length ≤ 60 := by decide +kernel
  intro x hx
  obtain ⟨h1, h2, h3⟩ := this x hx
  exact ⟨by simpa using h1, small_dec h2, h3⟩
theorem cnt_len : ∀ (l : List Nat) (st : Nat), cnt st l ≤ l.length
  | [], _ => Nat.le_refl _
  | a :: r, st => by
    have h1 := cnt_len r 1
    have h2 := cnt_len r 2
    have h0 := cnt_len r 0
    rw [cnt, List.length_cons]
    split
    · omega
    · split
      · omega
      · split <;> omega
section
variable {P : Program} {w : World} {K : PySem.W.Frag} {mg : Str → Option Value} {base : Heap}
theorem ok_law {f fX fN fR fA fE fP : Addr} {fd fdX fdN fdR fdA : FuncData} (F : Fun K "law" "law" sLaw f fd) (Z : Bare mg)
    (kX : PySem.W.keepIn K (.ref fX) = true) (bX : Binds K fdX ["_law_script", "_law_k"] []) (gX : mg "_law_box" = some (.ref fX)) (GX : FnOk P w K mg base CX0 1 fX fdX ["_law_script", "_law_k"] (spBox K))
    (kN : PySem.W.keepIn K (.ref fN) = true) (bN : Binds K fdN ["_law_box_here", "_law_deep"] []) (gN : mg "_law_any" = some (.ref fN)) (GN : FnOk P w K mg base CX0 5 fN fdN ["_law_box_here", "_law_deep"] (spAnyD 3))
    (kR : PySem.W.keepIn K (.ref fR) = true) (bR : Binds K fdR ["_law_box_here"] []) (gR : mg "_law_right" = some (.ref fR)) (GR : FnG P w K mg base 131 fR fdR ["_law_box_here"] spRight)
    (kA : PySem.W.keepIn K (.ref fA) = true) (bA : Binds K fdA ["_law_ask", "_law_value"] []) (gA : mg "_law_asked" = some (.ref fA)) (GA : FnG P w K mg base 130 fA fdA ["_law_ask", "_law_value"] (spAsked K fE fP))
    (gE : mg "read_edit" = some (.ref fE)) (gP : mg "read_plan" = some (.ref fP)) (kE : PySem.W.keepIn K (.ref fE) = true) (kP : PySem.W.keepIn K (.ref fP) = true) :
    FnG P w K mg base 132 f fd ["_law_script"] (spLaw K) := by
  refine FnG.mk' F scLaw (fun vs H Q E h => ?_) (fun cdv B fr s H vs Q E hG hr h => ?_)
  · obtain ⟨a, ns, rfl, _⟩ := h
    rfl
  · obtain ⟨a, ns, rfl, hS, hl, q⟩ := h
    have hr1 := hr.mono (show 1 ≤ 131 by decide)
    have hr5 := hr.mono (show 5 ≤ 131 by decide)
    have hr130 := hr.mono (show 130 ≤ 131 by decide)
    have hu : (B.deeper (envOfC (Str.ofString "law") (defScope sLaw) s.heap.objs.size f cdv)).units + 64 < cLine := by
      have := hr.un
      omega
    refine ⟨_, pss_cons (ps_for PassesOwn.never rfl (pi_range1 (by rfl) Z.range (pa_cons (pe_callB (call_max2 rfl) (by rfl) Z.max (by decide +kernel) (pa_cons pe_int
          (pa_cons (pe_callB (call_min2 rfl) (by rfl) Z.min (by decide +kernel) (pa_cons pe_int (pa_cons (pe_callB call_len_seq (by rfl) Z.len PySem.boot_len (pa_cons (pv 0) pa_nil)) pa_nil))) pa_nil))) pa_nil))
          (pg_name (i := 1) scLaw.nd rfl (Or.inl rfl))
        (pss_cons (ps_set (i := 2) scLaw.nd rfl (.inr rfl) (pe_call GX hr1 (by rfl) gX kX bX .nil pass0 (pa_cons (pv 0) (pa_cons (pv 1) pa_nil))))
        (pss_cons (ps_if (pt_not (pt_val (pe_callB (cr_all rfl) (by rfl) Z.all (by decide +kernel) (pa_cons
            (pe_lc (own := [("_law_turn", 8)]) (g := gName 8) (tt := tYes) rfl scLaw.nd (pi_range1 (by rfl) Z.range (pa_cons pe_int pa_nil))
              (blkOk_by (N := ["_law_script", "_law_k", "_law_box_here", "_law_value", "_law_told", "_law_some", "_law_deep", "_law_page", "_law_turn", "_law_many"]) (sc := defScope sLaw) (by decide +kernel))
              (fun _ _ _ _ _ => pg_name (i := 8) scLaw.nd rfl (Or.inl rfl)) (fun _ _ _ _ _ => pts_nil)
              (fun _ _ _ _ _ => pe_callG GR hG hr (by rfl) gR kR bR pass0 (pa_cons (pv 2) pa_nil))) pa_nil))))
          (pss_one ps_never) pss_nil)
        (pss_one (ps_for PassesOwn.never rfl (pi_list (pe_op op_cat
            (pe_lc (own := [("_law_turn", 8)]) (g := gName 8) (tt := tYes) rfl scLaw.nd (pi_range1 (by rfl) Z.range (pa_cons pe_int pa_nil))
              (blkOk_by (N := ["_law_script", "_law_k", "_law_box_here", "_law_value", "_law_told", "_law_some", "_law_deep", "_law_page", "_law_turn", "_law_many"]) (sc := defScope sLaw) (by decide +kernel))
              (fun _ _ _ _ _ => pg_name (i := 8) scLaw.nd rfl (Or.inl rfl)) (fun _ _ _ _ _ => pts_nil)
              (fun _ _ _ _ _ => pe_call GN hr5 (by rfl) gN kN bN .nil pass0 (pa_cons (pv 2) (pa_cons pe_int pa_nil))))
            (pe_lst (pa_cons pe_non (pa_cons (pe_tup pa_nil) (pa_cons (pe_lst pa_nil) (pa_cons pe_int (pa_cons pe_bl (pa_cons pe_dnewK (pa_cons (pe_tup (pa_cons pe_str pa_nil)) (pa_cons pe_int pa_nil)))))))))))
            (pg_name (i := 3) scLaw.nd rfl (Or.inl rfl))
          (pss_cons (ps_set (i := 4) scLaw.nd rfl (.inl rfl) (pe_lst (pa_cons (pe_ix (r := rIxT K) ix_tup (pe_callG GA hG hr130 (by rfl) gA kA bA pass0 (pa_cons (pe_glob (v := .ref fE) rfl gE rfl) (pa_cons (pv 3) pa_nil))) pe_int (fun _ _ => rfl))
              (pa_cons (pe_ix (r := rIxT K) ix_tup (pe_callG GA hG hr130 (by rfl) gA kA bA pass0 (pa_cons (pe_glob (v := .ref fP) rfl gP rfl) (pa_cons (pv 3) pa_nil))) pe_int (fun _ _ => rfl)) pa_nil))))
          (pss_one (ps_if (PW.pt (pw_and (pt_not (pt_val (pe_callB (r := rIsi K) call_isi (by rfl) Z.isin (by decide +kernel) (pa_cons (pv 3) (pa_cons (pe_bltn (v := .ty "str") (by rfl) Z.str (by decide +kernel) rfl) pa_nil)))))
              (pw_and1 (pt_cmpR (op_neM hu) (pv 4) (pe_lst (pa_cons pe_str (pa_cons pe_str pa_nil))) (nomark _)))))
            (pss_one ps_never) pss_nil))))))))
      (pss_cons (ps_set (i := 5) scLaw.nd rfl (.inl rfl) (pe_lst (pa_cons pe_str (pa_cons pe_str (pa_cons pe_str (pa_cons pe_str (pa_cons pe_str (pa_cons pe_str (pa_cons pe_str (pa_cons pe_str (pa_cons pe_str (pa_cons pe_str pa_nil))))))))))))
      (pss_cons (ps_set (i := 5) scLaw.nd rfl (.inl rfl) (pe_op op_cat (pv 5) (pe_lst (pa_cons pe_str (pa_cons pe_str (pa_cons pe_str (pa_cons pe_str (pa_cons pe_str pa_nil))))))))
      (pss_cons (ps_setLc (i := 6) (own := [("_law_many", 9)]) (g := gName 9) (tt := tYes) rfl scLaw.nd rfl rfl (sw_true rfl rfl rfl (by decide +kernel)) (pi_tup (pe_tup (pa_cons pe_int (pa_cons pe_int pa_nil))))
          (blkOk_by (N := ["_law_script", "_law_k", "_law_box_here", "_law_value", "_law_told", "_law_some", "_law_deep", "_law_page", "_law_turn", "_law_many"]) (sc := defScope sLaw) (by decide +kernel))
          (fun _ _ _ _ _ => pg_name (i := 9) scLaw.nd rfl (Or.inl rfl)) (fun _ _ _ _ _ => pts_nil)
          (fun _ _ _ _ _ => pe_op op_add_str (pe_op op_add_str (pe_op op_add_str pe_str (pe_op op_mulS pe_str (pv 9))) pe_str) (pe_op op_mulS pe_str (pv 9))))
      (pss_cons (ps_set (i := 5) scLaw.nd rfl (.inl rfl) (pe_op op_cat (pe_op op_cat (pv 5) (pv 6)) (pe_lst (pa_cons (pe_op op_add_str (pe_op op_add_str (pe_op op_add_str pe_str (pe_op op_mulS pe_str pe_int)) pe_str) (pe_op op_mulS pe_str pe_int)) pa_nil))))
      (pss_cons (ps_set (i := 5) scLaw.nd rfl (.inl rfl) (pe_op op_cat (pv 5) (pe_lst (pa_cons pe_str (pa_cons pe_str (pa_cons pe_str pa_nil))))))
      (pss_cons (ps_expr (pe_bm PySem.F.plainAttrs_list PySem.F.slot_list_append PySem.F.type_list_append mt_append (pv 5) (pa_cons pe_str pa_nil)))
      (pss_cons (ps_for PassesOwn.never rfl (pi_list (pv 5)) (pg_name (i := 7) scLaw.nd rfl (Or.inl rfl))
        (pss_one (ps_if (pt_cmpR op_ne (pe_ix (r := rIxT K) ix_tup (pe_callG GA hG hr130 (by rfl) gA kA bA pass0 (pa_cons (pe_glob (v := .ref fE) rfl gE rfl) (pa_cons (pv 7) pa_nil))) pe_int (fun _ _ => rfl)) pe_str (nomark _))
          (pss_one ps_never) pss_nil)))
      (pss_cons (ps_set (i := 5) scLaw.nd rfl (.inl rfl) (pe_lst (pa_cons pe_str (pa_cons pe_str (pa_cons pe_str (pa_cons pe_str (pa_cons pe_str (pa_cons pe_str pa_nil))))))))
      (pss_cons (ps_set (i := 5) scLaw.nd rfl (.inl rfl) (pe_op op_cat (pv 5) (pe_lst (pa_cons pe_str (pa_cons pe_str (pa_cons pe_str pa_nil))))))
      (pss_one (ps_ret (pe_callB (cr_all rfl) (by rfl) Z.all (by decide +kernel) (pa_cons
        (pe_lc (own := [("_law_page", 7)]) (g := gName 7) (tt := tYes) rfl scLaw.nd (pi_list (pv 5))
          (blkOk_by (N := ["_law_script", "_law_k", "_law_box_here", "_law_value", "_law_told", "_law_some", "_law_deep", "_law_page", "_law_turn", "_law_many"]) (sc := defScope sLaw) (by decide +kernel))
          (fun _ _ _ _ _ => pg_name (i := 7) scLaw.nd rfl (Or.inl rfl)) (fun _ _ _ _ _ => pts_nil)
          (fun _ _ _ _ _ => pe_cmpR op_eq (pe_ix (r := rIxT K) ix_tup (pe_callG GA hG hr130 (by rfl) gA kA bA pass0 (pa_cons (pe_glob (v := .ref fP) rfl gP rfl) (pa_cons (pv 7) pa_nil))) pe_int (fun _ _ => rfl)) pe_str (nomark _))) pa_nil))))))))))))), ?_⟩
    refine ⟨.ref a, rfl, a, _, rfl, .inl hS, _, _, rfl, _, _, rfl, _, rfl, ?_⟩
    rw [List.length_map]
    generalize hn : (if (if (ns.length : Int) < 3 then (ns.length : Int) else 3) > 1 then (if (ns.length : Int) < 3 then (ns.length : Int) else 3) else 1) = n
    have n0 : 1 ≤ n ∧ n ≤ 3 := by
      rw [← hn]
      split <;> split <;> omega
    refine ⟨by omega, by omega, for_it walk_range (fun i σ G => ∃ x1 x2 x3 x4 x5 x6 x7 x8 x9 : Option V, σ = [some (.ref a), x1, x2, x3, x4, x5, x6, x7, x8, x9] ∧ Same H G)
      ⟨none, none, none, none, none, none, none, none, none, rfl, Same.refl H⟩ (fun _ _ _ _ _ => True.intro) ?_ ?_⟩
    · rintro i x σ G G' hi ⟨x1, x2, x3, x4, x5, x6, x7, x8, x9, rfl, sG⟩ ⟨rfl, rfl⟩
      refine ⟨_, rfl, _, rfl, a, ns, 0 + (i : Int), rfl, sG.seq hS, by omega, by omega, fun G1 p s1 np bp => ?_⟩
      have out : ∀ {G2 : Hp}, Kept p G1 G2 → Same H G2 := fun {G2} k a o e => by
        refine k _ _ (s1 _ _ (sG _ _ e)) ?_
        rintro rfl
        have := sG _ _ e
        rw [np] at this
        cases this
      -- eight times
      refine ⟨8, rfl, by decide, by decide, fun D nD => ?_⟩
      have nDp : p ≠ D := Ne.symm (bp.nelst nD)
      refine lc_it walk_range (fun j G => Kept p G1 G ∧ Box (23200 * j) G p ∧ G D = some (.lst (List.replicate j (.bl true)))) ⟨keptS (same_upd nD), (bp.at (same_upd nD)).le (by omega), upd_same⟩ (fun _ _ _ _ => True.intro) ?_ ?_
      · rintro j x G2 G2' hj ⟨k2, b2, g2⟩ ⟨rfl, rfl⟩
        have hj : j < 8 := hj
        refine ⟨rfl, _, rfl, p, _, rfl, b2, by omega, fun G3 k3 b3 => ⟨_, k3 _ _ g2 (Ne.symm nDp), ?_, ?_, ?_, ?_⟩⟩
        · rw [List.length_replicate]
          exact Nat.lt_of_lt_of_le hj (by decide)
        · intro a o ha na
          rw [upd_ne (ne_of_none ha nD)]
          exact (k2.trans k3) _ _ ha na
        · obtain ⟨o, m', n', e', h1, h2, h3, h4⟩ := b3
          refine ⟨o, m', n', ?_, h1, h2, h3, by omega⟩
          rw [upd_ne nDp]
          exact e'
        · rw [upd_same, List.replicate_succ']
      · rintro G2 ⟨k2, b2, g2⟩
        have b2 : Box 185600 G2 p := b2.le (by show 23200 * (((8 : Int) - 0).toNat : Int) ≤ _; omega)
        refine ⟨D, List.replicate 8 true, rfl, SqL.of (by rw [g2, List.map_replicate]; rfl), ?_⟩
        refine ⟨_, rfl, ?_⟩
        rw [show (List.replicate 8 true).all id = true from by decide]
        refine iteF ?_
        -- any values
        refine ⟨8, rfl, by decide, by decide, fun D2 nD2 => ?_⟩
        have nD2p : p ≠ D2 := Ne.symm (b2.nelst nD2)
        refine lc_it walk_range (fun j G => ∃ us : List V, Kept p G2 G ∧ Box (185600 + 39 * j) G p ∧ G D2 = some (.lst us) ∧ us.length = j ∧ ∀ v ∈ us, AnyV (upd G2 D2 (.lst [])) G 2 v)
          ⟨[], keptS (same_upd nD2), (b2.at (same_upd nD2)).le (by omega), upd_same, rfl, fun v hv => (List.not_mem_nil hv).elim⟩ (fun _ _ _ _ => True.intro) ?_ ?_
        · rintro j x G G' hj ⟨us, kG, bG, gL, lu, hu⟩ ⟨rfl, rfl⟩
          have hj : j < 8 := hj
          refine ⟨rfl, _, rfl, p, _, 2, rfl, rfl, bG, by show _ + ((39 : Nat) : Int) ≤ _; omega, fun G6 v k6 b6 av => ?_⟩
          have g6 := k6 _ _ gL (Ne.symm nD2p)
          refine ⟨us, g6, Nat.lt_of_le_of_lt (show us.length ≤ 8 by omega) (by decide), us ++ [v], ?_, ?_, upd_same, by rw [List.length_append, lu]; rfl, fun v' hv' => ?_⟩
          · intro a o ha na
            rw [upd_ne (ne_of_none ha nD2)]
            exact (kG.trans k6) _ _ ha na
          · obtain ⟨o, m', n', e', h1, h2, h3, h4⟩ := b6
            have h4 : n' ≤ 185600 + 39 * (j : Int) + ((39 : Nat) : Int) := h4
            refine ⟨o, m', n', ?_, h1, h2, h3, by omega⟩
            rw [upd_ne nD2p]
            exact e'
          · have nl : ∀ {a : Addr}, upd G2 D2 (.lst []) a = none → a ≠ D2 ∧ a ≠ p := fun {a} z => by
              constructor
              · rintro rfl
                rw [upd_same] at z
                cases z
              · rintro rfl
                rw [upd_ne nD2p] at z
                exact b2.some z
            rcases List.mem_append.mp hv' with hv' | hv'
            · refine (hu v' hv').on (fun _ z => z) fun a o na e => ?_
              rw [upd_ne (nl na).1]
              exact k6 _ _ e (nl na).2
            · rw [List.mem_singleton.mp hv']
              refine av.on (fun a z => ?_) fun a o na e => ?_
              · by_cases e : a = D2
                · rw [e, gL]
                  simp
                · by_cases e2 : a = p
                  · rw [e2]
                    exact bG.some
                  · rw [upd_ne e] at z
                    cases e3 : G2 a with
                    | none => exact absurd e3 z
                    | some o =>
                      rw [kG _ _ e3 e2]
                      simp
              · have : a ≠ D2 := by
                  rintro rfl
                  rw [gL] at na
                  cases na
                rw [upd_ne this]
                exact e
        · rintro G3 ⟨us, k3, b3, g3, l3, h3⟩
          have s3 : Same H G3 := out (k2.trans k3)
          have h3 : ∀ v ∈ us, TV K G3 v := fun v hv => tv_of (h3 v hv)
          have l3 : us.length ≤ 8 := by rw [l3]; exact Nat.le_refl _
          clear k3 b3 k2 b2 g2 out np bp s1
          refine ⟨by show 0 ≤ _; decide, fun t4 n4 => ?_⟩
          obtain ⟨s4, g4, _⟩ := grow (o := .tup []) n4
          generalize upd G3 t4 (.tup []) = G4 at s4 g4 ⊢
          refine ⟨by show 0 ≤ _; decide, fun l5 n5 => ?_⟩
          obtain ⟨s5, g5, _⟩ := grow (o := .lst []) n5
          generalize upd G4 l5 (.lst []) = G5 at s5 g5 ⊢
          intro d6 n6
          obtain ⟨s6, g6, _⟩ := grow (o := .dK []) n6
          show tCons _ _ _ (upd G5 d6 (.dK [])) _
          generalize upd G5 d6 (.dK []) = G6 at s6 g6 ⊢
          refine ⟨by show 1 ≤ _; decide, fun t7 n7 => ?_⟩
          obtain ⟨s7, g7, _⟩ := grow (o := .tup [.str "-"]) n7
          generalize upd G6 t7 (.tup [.str "-"]) = G7 at s7 g7 ⊢
          refine ⟨by show 8 ≤ _; decide, fun M8 n8 => ?_⟩
          obtain ⟨s8, g8, _⟩ := grow (o := .lst [.non, .ref t4, .ref l5, .int 7, .bl true, .ref d6, .ref t7, .int 0]) n8
          show rCat _ (.ref M8) (upd G7 M8 (.lst [.non, .ref t4, .ref l5, .int 7, .bl true, .ref d6, .ref t7, .int 0])) _
          generalize upd G7 M8 (.lst [.non, .ref t4, .ref l5, .int 7, .bl true, .ref d6, .ref t7, .int 0]) = G8 at s8 g8 ⊢
          have s38 := s4.trans (s5.trans (s6.trans (s7.trans s8)))
          refine ⟨D2, M8, _, _, rfl, rfl, s38 _ _ g3, g8, Nat.le_trans (show us.length + 8 ≤ 16 by omega) (by decide), fun N nN => ?_⟩
          obtain ⟨s9, g9, _⟩ := grow (o := .lst (us ++ [.non, .ref t4, .ref l5, .int 7, .bl true, .ref d6, .ref t7, .int 0])) nN
          generalize upd G8 N (.lst (us ++ [.non, .ref t4, .ref l5, .int 7, .bl true, .ref d6, .ref t7, .int 0])) = G9 at s9 g9 ⊢
          have all : ∀ v ∈ us ++ [.non, .ref t4, .ref l5, .int 7, .bl true, .ref d6, .ref t7, .int 0], TV K G9 v := by
            have Sd : ∀ {v : V} {d : PyData}, (∀ x, v ≠ .str x) → Sh G9 (fun a => False) v d → Shown d → ∀ T, TyX K G9 v (.type T) → PySem.W.kitOne K (.type T) (.type "str") = some false → kitB T "str" = some false → TV K G9 v := fun n sh g T t k1 k => .inr ⟨n, T, _, _, t, k1, k, sh, g⟩
            have sh : ∀ d : PyData, d.showable = true → d.depth ≤ 40 → d.shown.length ≤ 100 → Shown d := fun d h1 h2 h3 => ⟨h1, h2, Nat.le_trans h3 (by decide)⟩
            have t9 := s9 _ _ (s8 _ _ (s7 _ _ (s6 _ _ (s5 _ _ g4))))
            have l9 := s9 _ _ (s8 _ _ (s7 _ _ (s6 _ _ g5)))
            have d9 := s9 _ _ (s8 _ _ (s7 _ _ g6))
            have q9 := s9 _ _ (s8 _ _ g7)
            intro v hv
            rcases List.mem_append.mp hv with hv | hv
            · exact (h3 v hv).same (s38.trans s9)
            · simp only [List.mem_cons, List.not_mem_nil, or_false] at hv
              rcases hv with rfl | rfl | rfl | rfl | rfl | rfl | rfl | rfl
              · exact Sd (fun _ e => nomatch e) .non (sh _ (by decide +kernel) (by decide +kernel) (by decide +kernel)) "NoneType" (.base .non) (by rfl) (by decide +kernel)
              · exact Sd (fun _ e => nomatch e) (.tup t9 (fun z => z) .nil) (sh _ (by decide +kernel) (by decide +kernel) (by decide +kernel)) "tuple" (.base (.tup t9)) (by rfl) (by decide +kernel)
              · exact Sd (fun _ e => nomatch e) (.lst l9 (fun z => z) .nil) (sh _ (by decide +kernel) (by decide +kernel) (by decide +kernel)) "list" (.base (.lst l9)) (by rfl) (by decide +kernel)
              · exact Sd (fun _ e => nomatch e) (.int _) (sh _ (by decide +kernel) (by decide +kernel) (by decide +kernel)) "int" (.base (.int _)) (by rfl) (by decide +kernel)
              · exact Sd (fun _ e => nomatch e) (.bl _) (sh _ (by decide +kernel) (by decide +kernel) (by decide +kernel)) "bool" (.base (.bl _)) (by rfl) (by decide +kernel)
              · exact Sd (fun _ e => nomatch e) (.dic0 d9 (fun z => z)) (sh _ (by decide +kernel) (by decide +kernel) (by decide +kernel)) "dict" (.base (.dK d9)) (by rfl) (by decide +kernel)
              · exact Sd (fun _ e => nomatch e) (.tup q9 (fun z => z) (.cons (.str _) .nil)) (sh _ (by decide +kernel) (by decide +kernel) (by decide +kernel)) "tuple" (.base (.tup q9)) (by rfl) (by decide +kernel)
              · exact Sd (fun _ e => nomatch e) (.int _) (sh _ (by decide +kernel) (by decide +kernel) (by decide +kernel)) "int" (.base (.int _)) (by rfl) (by decide +kernel)
          have s39 := s38.trans s9
          refine ⟨N, rfl, ⟨_, SqL.of g9⟩, for_it (walk_list (K := K) (a := N) (xs := us ++ [.non, .ref t4, .ref l5, .int 7, .bl true, .ref d6, .ref t7, .int 0])) (fun j σ G => ∃ x1 x2 x3 x4 x5 x6 x7 x8 x9 : Option V, σ = [some (.ref a), x1, x2, x3, x4, x5, x6, x7, x8, x9] ∧ Same G9 G)
            ⟨_, _, _, _, _, _, _, _, _, rfl, Same.refl _⟩ (fun j σ G _ ⟨_, _, _, _, _, _, _, _, _, _, s⟩ => SqL.of (s _ _ g9)) ?_ ?_⟩
          · rintro j v σ G G' hj ⟨x1, x2, x3, x4, x5, x6, x7, x8, x9, rfl, sG'⟩ ⟨rfl, hx⟩
            have tv := (all v (List.mem_of_getElem? hx)).same sG'
            refine ⟨_, rfl, asked_word (.inl ⟨rfl, rfl, rfl⟩) tv fun G10 w1 s10 h1 => ?_⟩
            refine ⟨_, rfl, asked_word (.inr ⟨rfl, rfl, rfl⟩) (tv.same s10) fun G11 w2 s11 h2 => ⟨by show 2 ≤ _; decide, fun T12 n12 => ?_⟩⟩
            obtain ⟨s12, g12, _⟩ := grow (o := .lst [.str w1, .str w2]) n12
            show gName 4 (.ref T12) _ (upd G11 T12 (.lst [.str w1, .str w2])) _
            generalize upd G11 T12 (.lst [.str w1, .str w2]) = G12 at s12 g12 ⊢
            have sx := s10.trans (s11.trans s12)
            have sGx := sG'.trans sx
            have tv := tv.same sx
            rcases tv with ⟨x, rfl, _, _⟩ | ⟨ns', ty, d, S, tyx, k1, k, _, _⟩
            · refine ⟨_, rfl, _, .ty "str", _, .type "str", true, rfl, .ty "str", .base (.str x), kit_ty (by decide +kernel), _, rfl, ?_⟩
              refine iteF (iteF ?_)
              exact ⟨_, _, _, _, _, _, _, _, _, rfl, sGx⟩
            · refine ⟨_, rfl, _, .ty "str", _, .type "str", false, rfl, .ty "str", tyx, k1, _, rfl, ?_⟩
              refine iteT ?_
              refine ⟨_, rfl, by show 2 ≤ _; decide, fun q13 n13 => ?_⟩
              obtain ⟨s13, g13, _⟩ := grow (o := .lst [.str "none", .str "none"]) n13
              show rNeM K (.ref T12) (.ref q13) (upd G12 q13 (.lst [.str "none", .str "none"])) _
              generalize upd G12 q13 (.lst [.str "none", .str "none"]) = G13 at s13 g13 ⊢
              have e1 := h1 ns'
              have e2 := h2 ns'
              subst e1 e2
              have dp : ∀ {a : Addr}, G13 a = some (.lst [.str "none", .str "none"]) → Dp K G13 (.ref a) (.list [.str "none", .str "none"]) := fun e => .lst (SqL.of e) (.cons (.str _) (.cons (.str _) .nil))
              refine ⟨_, _, dp (s13 _ _ g12), dp g13, by decide +kernel, by decide +kernel, by decide +kernel, _, rfl, ?_⟩
              refine iteF' (by decide +kernel) ?_
              exact ⟨_, _, _, _, _, _, _, _, _, rfl, sGx.trans s13⟩
          · rintro σ G ⟨x1, x2, x3, x4, x5, x6, x7, x8, x9, rfl, sG'⟩
            exact ⟨x1, x2, x3, x4, x5, x6, x7, x8, x9, rfl, s3.trans (s39.trans sG')⟩
    · rintro σ G ⟨x1, x2, x3, x4, x5, x6, x7, x8, x9, rfl, sG⟩
      refine ⟨by show 10 ≤ _; decide, fun L1 n1 => ?_⟩
      obtain ⟨s1, g1, _⟩ := grow (o := .lst (tA.map V.str)) n1
      show gName 5 (.ref L1) _ (upd G L1 (.lst (tA.map V.str))) _
      generalize upd G L1 (.lst (tA.map V.str)) = G1 at s1 g1 ⊢
      refine ⟨_, rfl, by show 5 ≤ _; decide, fun L2 n2 => ?_⟩
      obtain ⟨s2, g2, _⟩ := grow (o := .lst (tB_.map V.str)) n2
      show rCat _ (.ref L2) (upd G1 L2 (.lst (tB_.map V.str))) _
      generalize upd G1 L2 (.lst (tB_.map V.str)) = G2 at s2 g2 ⊢
      refine ⟨L1, L2, _, _, rfl, rfl, s2 _ _ g1, g2, by show 15 ≤ _; decide, fun L3 n3 => ?_⟩
      obtain ⟨s3, g3, _⟩ := grow (o := .lst ((tA ++ tB_).map V.str)) n3
      show gName 5 (.ref L3) _ (upd G2 L3 (.lst ((tA ++ tB_).map V.str))) _
      generalize upd G2 L3 (.lst ((tA ++ tB_).map V.str)) = G3 at s3 g3 ⊢
      clear s1 g1 s2 g2 s3
      -- the deep ones
      refine ⟨by show 2 ≤ _; decide, fun t4 n4 => ?_⟩
      obtain ⟨s4, g4, _⟩ := grow (o := .tup [.int ((41 : Nat) : Int), .int ((1200 : Nat) : Int)]) n4
      show ∃ a, V.ref t4 = V.ref a ∧ _
      generalize hG4 : upd G3 t4 (.tup [.int ((41 : Nat) : Int), .int ((1200 : Nat) : Int)]) = G4 at s4 g4
      have g3 := s4 _ _ g3
      clear s4 hG4
      refine ⟨t4, rfl, ⟨_, SqT.of g4⟩, fun D nD => lc_it (walk_tup (K := K) (a := t4) (xs := [.int ((41 : Nat) : Int), .int ((1200 : Nat) : Int)])) (fun j G5 => Same G4 G5 ∧ G5 D = some (.lst ((([41, 1200] : List Nat).take j).map fun k => V.str (deepS k)))) ⟨same_upd nD, upd_same⟩ (fun j G5 _ z => SqT.of (z.1 _ _ g4)) ?_ ?_⟩
      · rintro j x G5 G5' hj ⟨s5, g5⟩ ⟨rfl, hx⟩
        obtain ⟨k, rfl, k1, k2, hk⟩ : ∃ k : Nat, x = .int (k : Int) ∧ 41 ≤ k ∧ k ≤ 1200 ∧ ([41, 1200] : List Nat)[j]? = some k := by
          match j, hx with
          | 0, hx =>
            cases hx
            exact ⟨41, rfl, by decide, by decide, rfl⟩
          | 1, hx =>
            cases hx
            exact ⟨1200, rfl, by decide, by decide, rfl⟩
        obtain ⟨_, m1, m2⟩ := deepS_no k1 k2
        have kk : k = 41 ∨ k = 1200 := by
          match j, hk with
          | 0, hk =>
            cases hk
            exact .inl rfl
          | 1, hk =>
            cases hk
            exact .inr rfl
        have ok1 : MulOk "{ a: " (k : Int) := by
          rcases kk with rfl | rfl
          · exact ⟨by decide, by decide +kernel, by decide +kernel⟩
          · exact ⟨by decide, by decide +kernel, by decide +kernel⟩
        have ok2 : MulOk " }" (k : Int) := by
          rcases kk with rfl | rfl
          · exact ⟨by decide, by decide +kernel, by decide +kernel⟩
          · exact ⟨by decide, by decide +kernel, by decide +kernel⟩
        have z1 : (Str.ofString "put main/a 0 #0 ").length = 16 := by decide +kernel
        have z2 : (Str.ofString "1").length = 1 := by decide +kernel
        have line : 100000 ≤ sizeLine := by decide
        refine ⟨rfl, _, rfl, _, _, rfl, rfl, ok1, _, _, rfl, rfl, by omega, _, _, rfl, rfl, by rw [app_len]; omega, _, rfl, _, _, rfl, rfl, ok2, _, _, rfl, rfl, by rw [app_len, app_len]; omega, _, g5, ?_, ?_, ?_⟩
        · rw [List.length_map, List.length_take]
          exact Nat.lt_of_le_of_lt (Nat.min_le_right _ _) (by decide)
        · intro a o ha
          rw [upd_ne (ne_of_none ha nD)]
          exact s5 _ _ ha
        · rw [upd_same, List.take_add_one, hk, List.map_append]
          rfl
      · rintro G5 ⟨s5, g5⟩
        have g3 := s5 _ _ g3
        have g5 : G5 D = some (.lst ([deepS 41, deepS 1200].map V.str)) := g5
        clear s5 nD g4
        obtain ⟨_, m1, m2⟩ := rowsS_no
        have z1 : (Str.ofString "put main/a 0 #0 ").length = 16 := by decide +kernel
        have z2 : (Str.ofString "{ }").length = 3 := by decide +kernel
        have line : 100000 ≤ sizeLine := by decide
        refine ⟨_, rfl, _, rfl, L3, D, _, _, rfl, rfl, g3, g5, by show 17 ≤ _; decide, fun L6 n6 => ?_⟩
        obtain ⟨s6, g6, _⟩ := grow (o := .lst ((tA ++ tB_ ++ [deepS 41, deepS 1200]).map V.str)) n6
        show tLst _ _ (upd G5 L6 (.lst ((tA ++ tB_ ++ [deepS 41, deepS 1200]).map V.str))) _
        generalize upd G5 L6 (.lst ((tA ++ tB_ ++ [deepS 41, deepS 1200]).map V.str)) = G6 at s6 g6 ⊢
        have m1 : (Txt.mul "{ a: [ #0 " 600).length ≤ 6000 := m1
        have m2 : (Txt.mul " ] }" 600).length ≤ 2400 := m2
        refine ⟨_, _, rfl, rfl, ⟨by decide, by decide +kernel, by decide +kernel⟩, _, _, rfl, rfl, by omega, _, _, rfl, rfl, by rw [app_len]; omega, _, _, rfl, rfl, ⟨by decide, by decide +kernel, by decide +kernel⟩, _, _, rfl, rfl, by rw [app_len, app_len]; omega, by show 1 ≤ _; omega, fun L7 n7 => ?_⟩
        obtain ⟨s7, g7, _⟩ := grow (o := .lst ([rowsS].map V.str)) n7
        show rCat (.ref L6) (.ref L7) (upd G6 L7 (.lst ([rowsS].map V.str))) _
        generalize upd G6 L7 (.lst ([rowsS].map V.str)) = G7 at s7 g7 ⊢
        refine ⟨L6, L7, _, _, rfl, rfl, s7 _ _ g6, g7, by show 18 ≤ _; omega, fun L8 n8 => ?_⟩
        obtain ⟨s8, g8, _⟩ := grow (o := .lst ((tA ++ tB_ ++ [deepS 41, deepS 1200] ++ [rowsS]).map V.str)) n8
        show gName 5 (.ref L8) _ (upd G7 L8 (.lst ((tA ++ tB_ ++ [deepS 41, deepS 1200] ++ [rowsS]).map V.str))) _
        generalize upd G7 L8 (.lst ((tA ++ tB_ ++ [deepS 41, deepS 1200] ++ [rowsS]).map V.str)) = G8 at s8 g8 ⊢
        refine ⟨_, rfl, by show 3 ≤ _; omega, fun L9 n9 => ?_⟩
        obtain ⟨s9, g9, _⟩ := grow (o := .lst (tC_.map V.str)) n9
        show rCat _ (.ref L9) (upd G8 L9 (.lst (tC_.map V.str))) _
        generalize upd G8 L9 (.lst (tC_.map V.str)) = G9 at s9 g9 ⊢
        refine ⟨L8, L9, _, _, rfl, rfl, s9 _ _ g8, g9, by show 21 ≤ _; omega, fun L10 n10 => ?_⟩
        obtain ⟨s10, g10, _⟩ := grow (o := .lst ((tA ++ tB_ ++ [deepS 41, deepS 1200] ++ [rowsS] ++ tC_).map V.str)) n10
        show gName 5 (.ref L10) _ (upd G9 L10 (.lst ((tA ++ tB_ ++ [deepS 41, deepS 1200] ++ [rowsS] ++ tC_).map V.str))) _
        generalize upd G9 L10 (.lst ((tA ++ tB_ ++ [deepS 41, deepS 1200] ++ [rowsS] ++ tC_).map V.str)) = G10 at s10 g10 ⊢
        refine ⟨.ref L10, rfl, .inl ⟨rfl, _, SqL.of g10⟩, L10, _, _, rfl, rfl, g10, Nat.lt_of_lt_of_le (show 21 < 100000 by decide) line, ?_⟩
        have g11 : upd G10 L10 (.lst ((tA ++ tB_ ++ [deepS 41, deepS 1200] ++ [rowsS] ++ tC_).map V.str ++ [V.str tX])) L10 = some (.lst ((tA ++ tB_ ++ [deepS 41, deepS 1200] ++ [rowsS] ++ tC_ ++ [tX]).map V.str)) := upd_same
        show tSeq _ _ _ _ (upd G10 L10 (.lst ((tA ++ tB_ ++ [deepS 41, deepS 1200] ++ [rowsS] ++ tC_).map V.str ++ [V.str tX])))
        generalize upd G10 L10 (.lst ((tA ++ tB_ ++ [deepS 41, deepS 1200] ++ [rowsS] ++ tC_).map V.str ++ [V.str tX])) = G11 at g11 ⊢
        have noE : ∀ x ∈ tA ++ tB_ ++ [deepS 41, deepS 1200] ++ [rowsS] ++ tC_ ++ [tX], NoE x := fun x hx => by
          simp only [List.mem_append, List.mem_cons, List.not_mem_nil, or_false] at hx
          rcases hx with ((((hx | hx) | hx | hx) | hx) | hx) | hx
          · exact known_e x (by simp [hx])
          · exact known_e x (by simp [hx])
          · rw [hx]; exact (deepS_no (by decide) (by decide)).1
          · rw [hx]; exact (deepS_no (by decide) (by decide)).1
          · rw [hx]; exact rowsS_no.1
          · exact known_e x (by simp [hx])
          · exact known_e x (by simp [hx])
        generalize tA ++ tB_ ++ [deepS 41, deepS 1200] ++ [rowsS] ++ tC_ ++ [tX] = pages at g11 noE
        clear g10 s10 g9 s9 g8 s8 g7 s7 g6 s6 g5 g3 m1 m2
        refine ⟨_, rfl, L10, rfl, ⟨_, SqL.of g11⟩, for_it (walk_list (K := K) (a := L10) (xs := pages.map V.str)) (fun j σ G => ∃ x1 x2 x3 x4 x5 x6 x7 x8 x9 : Option V, σ = [some (.ref a), x1, x2, x3, x4, x5, x6, x7, x8, x9] ∧ Same G11 G)
          ⟨_, _, _, _, _, _, _, _, _, rfl, Same.refl _⟩ (fun j σ G _ ⟨_, _, _, _, _, _, _, _, _, _, s⟩ => SqL.of (s _ _ g11)) ?_ ?_⟩
        · rintro j v σ G G' hj ⟨x1, x2, x3, x4, x5, x6, x7, x8, x9, rfl, sG'⟩ ⟨rfl, hx⟩
          obtain ⟨x, hm, rfl⟩ := List.mem_map.mp (List.mem_of_getElem? hx)
          obtain ⟨e1, e2, e3⟩ := noE x hm
          refine ⟨_, rfl, asked_none (.inl ⟨rfl, rfl, rfl⟩) e1 trivial e2 e3 fun G12 s12 => ⟨rfl, _, rfl, ?_⟩⟩
          refine iteF' (by decide +kernel) ?_
          exact ⟨_, _, _, _, _, _, _, _, _, rfl, sG'.trans s12⟩
        · rintro σ G ⟨x1, x2, x3, x4, x5, x6, x7, x8, x9, rfl, sG'⟩
          refine ⟨by show 6 ≤ _; omega, fun L1 n1 => ?_⟩
          obtain ⟨s1, g1, _⟩ := grow (o := .lst (tD_.map V.str)) n1
          show gName 5 (.ref L1) _ (upd G L1 (.lst (tD_.map V.str))) _
          generalize upd G L1 (.lst (tD_.map V.str)) = G1 at s1 g1 ⊢
          refine ⟨_, rfl, by show 3 ≤ _; omega, fun L2 n2 => ?_⟩
          obtain ⟨s2, g2, _⟩ := grow (o := .lst (tE_.map V.str)) n2
          show rCat _ (.ref L2) (upd G1 L2 (.lst (tE_.map V.str))) _
          generalize upd G1 L2 (.lst (tE_.map V.str)) = G2 at s2 g2 ⊢
          refine ⟨L1, L2, _, _, rfl, rfl, s2 _ _ g1, g2, by show 9 ≤ _; omega, fun L3 n3 => ?_⟩
          obtain ⟨s3, g3, _⟩ := grow (o := .lst ((tD_ ++ tE_).map V.str)) n3
          show gName 5 (.ref L3) _ (upd G2 L3 (.lst ((tD_ ++ tE_).map V.str))) _
          generalize upd G2 L3 (.lst ((tD_ ++ tE_).map V.str)) = G3 at s3 g3 ⊢
          have noP := known_p
          have few : (tD_ ++ tE_).length = 9 := by decide
          generalize tD_ ++ tE_ = pages at g3 noP few
          refine ⟨_, rfl, L3, rfl, ⟨_, SqL.of g3⟩, fun D nD => lc_it (walk_list (K := K) (a := L3) (xs := pages.map V.str)) (fun j G5 => Same G3 G5 ∧ G5 D = some (.lst (List.replicate j (.bl true)))) ⟨same_upd nD, upd_same⟩ (fun j G5 _ z => SqL.of (z.1 _ _ g3)) ?_ ?_⟩
          · rintro j x G5 G5' hj ⟨s5, g5⟩ ⟨rfl, hx⟩
            rw [List.length_map, few] at hj
            obtain ⟨x, hm, rfl⟩ := List.mem_map.mp (List.mem_of_getElem? hx)
            obtain ⟨e1, e2, e3⟩ := noP x hm
            refine ⟨rfl, _, rfl, asked_none (.inr ⟨rfl, rfl, rfl⟩) e1 (by have := cnt_len (cp x) 0; omega) e2 (by omega) fun G6 s6 => ⟨rfl, _, s6 _ _ g5, ?_, ?_, ?_⟩⟩
            · rw [List.length_replicate]
              exact Nat.lt_of_lt_of_le hj (by decide)
            · intro a o ha
              rw [upd_ne (ne_of_none ha nD)]
              exact s6 _ _ (s5 _ _ ha)
            · rw [upd_same, List.replicate_succ']
              exact congrArg (fun c => some (HO.lst (List.replicate j (V.bl true) ++ [V.bl c]))) (show decide (V.str (Str.ofString "none") = V.str (Str.ofString "none")) = true from by decide +kernel)
          · rintro G5 ⟨s5, g5⟩
            refine ⟨D, List.replicate 9 true, rfl, SqL.of (by rw [g5, List.length_map, few, List.map_replicate]), ?_⟩
            rw [show (List.replicate 9 true).all id = true from by decide]
            exact q _
end
end K9

set_option maxHeartbeats 4000000
/-! The program is read: the readers that the law asks. -/
namespace K9
open PySem PySem.Spec PyProof.Rows L2 K2
theorem prog_all {P : Program} {w : World} {K : PySem.W.Frag} {mg : Str → Option Value} {base : Heap} {C CB : Addr}
    {f_sinit f_run_end f_string_end f_is_inner f_m_refuse fB f_m_sees f_m_accepts f_m_expect f_m_expect_end f_m_take_to f_is_name f_number_in f_m_take_word f_m_take_name f_m_take_number f_m_take_serial f_m_take_literal f_m_take_part f_m_take_path f_m_take_place f_m_take_spot f_m_take_record f_m_take_content f_m_take_rows f_take_step f_take_edit f_read_edit f_take_serials f_take_deed f_comes_ahead f_take_plan f_read_plan : Addr} {d_sinit d_run_end d_string_end d_is_inner d_m_refuse dB d_m_sees d_m_accepts d_m_expect d_m_expect_end d_m_take_to d_is_name d_number_in d_m_take_word d_m_take_name d_m_take_number d_m_take_serial d_m_take_literal d_m_take_part d_m_take_path d_m_take_place d_m_take_spot d_m_take_record d_m_take_content d_m_take_rows d_take_step d_take_edit d_read_edit d_take_serials d_take_deed d_comes_ahead d_take_plan d_read_plan : FuncData}
    (T : Txt K mg C CB fB)
    (Z : Bare mg)
    (N : K2.Names mg)
    (Co : Cons K mg)
    (hU : ∃ t, mg "UNIT" = some (.int (10 ^ 64) t))
    (n_tuple : mg "tuple" = none)
    (N2 : Names2 mg)
    (M : Mk K C f_sinit)
    (n_zip : mg "zip" = none)
    (F_sinit : Fun K "__init__" "Scanner.__init__" mInit f_sinit d_sinit)
    (F_run_end : Fun K "run_end" "run_end" sRun f_run_end d_run_end)
    (F_string_end : Fun K "string_end" "string_end" sStrEnd f_string_end d_string_end)
    (F_is_inner : Fun K "is_inner" "is_inner" sInner f_is_inner d_is_inner)
    (b_is_inner : Binds K d_is_inner ["sign"] [])
    (g_is_inner : mg "is_inner" = some (.ref f_is_inner))
    (F_m_refuse : Fun K "refuse" "Scanner.refuse" mRefuse f_m_refuse d_m_refuse)
    (F_B : Fun K "__init__" "BadText.__init__" sBadInit fB dB)
    (b_B : Binds K dB ["self", "value"] [])
    (F_m_sees : Fun K "sees" "Scanner.sees" mSees f_m_sees d_m_sees)
    (F_m_accepts : Fun K "accepts" "Scanner.accepts" mAccepts f_m_accepts d_m_accepts)
    (b_m_sees : Binds K d_m_sees ["self", "sign"] [])
    (m_m_sees : Meth K C "sees" f_m_sees)
    (F_m_expect : Fun K "expect" "Scanner.expect" mExpect f_m_expect d_m_expect)
    (b_m_accepts : Binds K d_m_accepts ["self", "sign"] [])
    (m_m_accepts : Meth K C "accepts" f_m_accepts)
    (b_m_refuse : Binds K d_m_refuse ["self"] [])
    (m_m_refuse : Meth K C "refuse" f_m_refuse)
    (F_m_expect_end : Fun K "expect_end" "Scanner.expect_end" mEnd f_m_expect_end d_m_expect_end)
    (F_m_take_to : Fun K "take_to" "Scanner.take_to" mTo f_m_take_to d_m_take_to)
    (F_is_name : Fun K "is_name" "is_name" sIsName f_is_name d_is_name)
    (F_number_in : Fun K "number_in" "number_in" sNumIn f_number_in d_number_in)
    (F_m_take_word : Fun K "take_word" "Scanner.take_word" mWord f_m_take_word d_m_take_word)
    (b_m_take_to : Binds K d_m_take_to ["self", "end"] [])
    (m_m_take_to : Meth K C "take_to" f_m_take_to)
    (k_run_end : PySem.W.keepIn K (.ref f_run_end) = true)
    (b_run_end : Binds K d_run_end ["text", "at", "letters"] [])
    (g_run_end : mg "run_end" = some (.ref f_run_end))
    (F_m_take_name : Fun K "take_name" "Scanner.take_name" mName f_m_take_name d_m_take_name)
    (b_m_take_word : Binds K d_m_take_word ["self"] [])
    (m_m_take_word : Meth K C "take_word" f_m_take_word)
    (k_is_name : PySem.W.keepIn K (.ref f_is_name) = true)
    (b_is_name : Binds K d_is_name ["value"] [])
    (g_is_name : mg "is_name" = some (.ref f_is_name))
    (F_m_take_number : Fun K "take_number" "Scanner.take_number" mNumber f_m_take_number d_m_take_number)
    (k_number_in : PySem.W.keepIn K (.ref f_number_in) = true)
    (b_number_in : Binds K d_number_in ["digits"] [])
    (g_number_in : mg "number_in" = some (.ref f_number_in))
    (F_m_take_serial : Fun K "take_serial" "Scanner.take_serial" mSerial f_m_take_serial d_m_take_serial)
    (b_m_expect : Binds K d_m_expect ["self", "sign"] [])
    (m_m_expect : Meth K C "expect" f_m_expect)
    (b_m_take_number : Binds K d_m_take_number ["self"] [])
    (m_m_take_number : Meth K C "take_number" f_m_take_number)
    (F_m_take_literal : Fun K "take_literal" "Scanner.take_literal" mLiteral f_m_take_literal d_m_take_literal)
    (k_string_end : PySem.W.keepIn K (.ref f_string_end) = true)
    (b_string_end : Binds K d_string_end ["text", "start"] [])
    (g_string_end : mg "string_end" = some (.ref f_string_end))
    (F_m_take_part : Fun K "take_part" "Scanner.take_part" mPart f_m_take_part d_m_take_part)
    (b_m_take_serial : Binds K d_m_take_serial ["self"] [])
    (m_m_take_serial : Meth K C "take_serial" f_m_take_serial)
    (b_m_take_name : Binds K d_m_take_name ["self"] [])
    (m_m_take_name : Meth K C "take_name" f_m_take_name)
    (F_m_take_path : Fun K "take_path" "Scanner.take_path" mPath f_m_take_path d_m_take_path)
    (b_m_take_part : Binds K d_m_take_part ["self", "with_stars"] [])
    (m_m_take_part : Meth K C "take_part" f_m_take_part)
    (F_m_take_place : Fun K "take_place" "Scanner.take_place" mPlace f_m_take_place d_m_take_place)
    (b_m_take_path : Binds K d_m_take_path ["self", "with_stars"] [])
    (m_m_take_path : Meth K C "take_path" f_m_take_path)
    (F_m_take_spot : Fun K "take_spot" "Scanner.take_spot" mSpot f_m_take_spot d_m_take_spot)
    (F_m_take_record : Fun K "take_record" "Scanner.take_record" mRecord f_m_take_record d_m_take_record)
    (b_m_take_record : Binds K d_m_take_record ["self", "depth"] [])
    (m_m_take_record : Meth K C "take_record" f_m_take_record)
    (b_m_take_literal : Binds K d_m_take_literal ["self"] [])
    (m_m_take_literal : Meth K C "take_literal" f_m_take_literal)
    (F_m_take_content : Fun K "take_content" "Scanner.take_content" mContent f_m_take_content d_m_take_content)
    (b_m_take_content : Binds K d_m_take_content ["self", "depth"] [])
    (m_m_take_content : Meth K C "take_content" f_m_take_content)
    (F_m_take_rows : Fun K "take_rows" "Scanner.take_rows" mRows f_m_take_rows d_m_take_rows)
    (b_m_take_rows : Binds K d_m_take_rows ["self", "depth"] [])
    (m_m_take_rows : Meth K C "take_rows" f_m_take_rows)
    (F_take_step : Fun K "take_step" "take_step" sTakeStep f_take_step d_take_step)
    (b_m_take_place : Binds K d_m_take_place ["self"] [])
    (m_m_take_place : Meth K C "take_place" f_m_take_place)
    (F_take_edit : Fun K "take_edit" "take_edit" sTakeE f_take_edit d_take_edit)
    (k_take_step : PySem.W.keepIn K (.ref f_take_step) = true)
    (b_take_step : Binds K d_take_step ["scanner"] [])
    (g_take_step : mg "take_step" = some (.ref f_take_step))
    (F_read_edit : Fun K "read_edit" "read_edit" sReadE f_read_edit d_read_edit)
    (b_sinit : Binds K d_sinit ["self", "whole"] [])
    (k_take_edit : PySem.W.keepIn K (.ref f_take_edit) = true)
    (b_take_edit : Binds K d_take_edit ["scanner"] [])
    (g_take_edit : mg "take_edit" = some (.ref f_take_edit))
    (b_m_expect_end : Binds K d_m_expect_end ["self"] [])
    (m_m_expect_end : Meth K C "expect_end" f_m_expect_end)
    (F_take_serials : Fun K "take_serials" "take_serials" sTakeS f_take_serials d_take_serials)
    (F_take_deed : Fun K "take_deed" "take_deed" sTakeD f_take_deed d_take_deed)
    (b_m_take_spot : Binds K d_m_take_spot ["self"] [])
    (m_m_take_spot : Meth K C "take_spot" f_m_take_spot)
    (k_take_serials : PySem.W.keepIn K (.ref f_take_serials) = true)
    (b_take_serials : Binds K d_take_serials ["scanner"] [])
    (g_take_serials : mg "take_serials" = some (.ref f_take_serials))
    (F_comes_ahead : Fun K "comes_ahead" "comes_ahead" sAhead f_comes_ahead d_comes_ahead)
    (k_comes_ahead : PySem.W.keepIn K (.ref f_comes_ahead) = true)
    (b_comes_ahead : Binds K d_comes_ahead ["one", "other"] [])
    (g_comes_ahead : mg "comes_ahead" = some (.ref f_comes_ahead))
    (F_take_plan : Fun K "take_plan" "take_plan" sTakeP f_take_plan d_take_plan)
    (k_take_deed : PySem.W.keepIn K (.ref f_take_deed) = true)
    (b_take_deed : Binds K d_take_deed ["scanner"] [])
    (g_take_deed : mg "take_deed" = some (.ref f_take_deed))
    (F_read_plan : Fun K "read_plan" "read_plan" sReadP f_read_plan d_read_plan)
    (k_take_plan : PySem.W.keepIn K (.ref f_take_plan) = true)
    (b_take_plan : Binds K d_take_plan ["scanner"] [])
    (g_take_plan : mg "take_plan" = some (.ref f_take_plan)) :
    FnOk P w K mg base (CX P w) 129 f_read_edit d_read_edit ["text"] (spRead K CB rEdit) ∧ FnOk P w K mg base (CX P w) 11 f_read_plan d_read_plan ["text"] (spReadF K CB (fun l => cnt 0 l < 62) rPlan) := by
  have G_sinit : FnOk P w K mg base CX0 1 f_sinit d_sinit ["self", "whole"] (spInit C) := ok_init F_sinit T
  have G_run_end : FnOk P w K mg base CX0 1 f_run_end d_run_end ["text", "at", "letters"] spRun := ok_run F_run_end Z
  have G_string_end : FnOk P w K mg base CX0 2 f_string_end d_string_end ["text", "start"] spStrE := ok_strE F_string_end Z N F_is_inner b_is_inner g_is_inner
  have G_m_refuse : FnOk P w K mg base (CX P w) 3 f_m_refuse d_m_refuse ["self"] (spRefuse C CB) := ok_refuse F_m_refuse T F_B b_B
  have G_m_sees : FnOk P w K mg base CX0 1 f_m_sees d_m_sees ["self", "sign"] (spSees C) := ok_sees F_m_sees T Z
  have G_m_accepts : FnOk P w K mg base CX0 2 f_m_accepts d_m_accepts ["self", "sign"] (spAcc C) := ok_acc F_m_accepts T Z b_m_sees G_m_sees m_m_sees
  have G_m_expect : FnOk P w K mg base (CX P w) 4 f_m_expect d_m_expect ["self", "sign"] (spExp C CB) := ok_exp F_m_expect T b_m_accepts G_m_accepts m_m_accepts b_m_refuse G_m_refuse m_m_refuse
  have G_m_expect_end : FnOk P w K mg base (CX P w) 4 f_m_expect_end d_m_expect_end ["self"] (spEndS C CB) := ok_end F_m_expect_end T Z b_m_refuse G_m_refuse m_m_refuse
  have G_m_take_to : FnOk P w K mg base CX0 1 f_m_take_to d_m_take_to ["self", "end"] (spTo C) := ok_to F_m_take_to T
  have G_is_name : FnOk P w K mg base CX0 1 f_is_name d_is_name ["value"] spNm := ok_is F_is_name Z Co
  have G_number_in : FnOk P w K mg base CX0 1 f_number_in d_number_in ["digits"] spNumIn := ok_numIn F_number_in Z N hU
  have G_m_take_word : FnOk P w K mg base CX0 2 f_m_take_word d_m_take_word ["self"] (spWord C) := ok_word F_m_take_word T N b_m_take_to G_m_take_to m_m_take_to k_run_end b_run_end g_run_end G_run_end
  have G_m_take_name : FnOk P w K mg base (CX P w) 4 f_m_take_name d_m_take_name ["self"] (spRd C CB rName repS []) := ok_name F_m_take_name T b_m_take_word G_m_take_word m_m_take_word k_is_name b_is_name g_is_name G_is_name b_m_refuse G_m_refuse m_m_refuse
  have G_m_take_number : FnOk P w K mg base (CX P w) 4 f_m_take_number d_m_take_number ["self"] (spRd C CB rNum repN []) := ok_number F_m_take_number T Z N b_m_take_to G_m_take_to m_m_take_to k_run_end b_run_end g_run_end G_run_end k_number_in b_number_in g_number_in G_number_in b_m_refuse G_m_refuse m_m_refuse
  have G_m_take_serial : FnOk P w K mg base (CX P w) 5 f_m_take_serial d_m_take_serial ["self"] (spRd C CB rSer repN []) := ok_serial F_m_take_serial T b_m_expect G_m_expect m_m_expect b_m_take_number G_m_take_number m_m_take_number
  have G_m_take_literal : FnOk P w K mg base (CX P w) 5 f_m_take_literal d_m_take_literal ["self"] (spRd C CB rLit Rep []) := ok_literal F_m_take_literal T N b_m_sees G_m_sees m_m_sees b_m_accepts G_m_accepts m_m_accepts b_m_refuse G_m_refuse m_m_refuse k_string_end b_string_end g_string_end G_string_end b_m_take_to G_m_take_to m_m_take_to b_m_take_number G_m_take_number m_m_take_number
  have G_part_true : FnOk P w K mg base (CX P w) 6 f_m_take_part d_m_take_part ["self", "with_stars"] (spRd C CB (rPart true) Rep [.bl true]) := ok_part F_m_take_part T b_m_accepts G_m_accepts m_m_accepts b_m_sees G_m_sees m_m_sees b_m_take_serial G_m_take_serial m_m_take_serial b_m_take_name G_m_take_name m_m_take_name true
  have G_path_true : FnOk P w K mg base (CX P w) 7 f_m_take_path d_m_take_path ["self", "with_stars"] (spRd C CB (rPath true) repL [.bl true]) := ok_path F_m_take_path T n_tuple true b_m_take_part G_part_true m_m_take_part b_m_accepts G_m_accepts m_m_accepts
  have G_part_false : FnOk P w K mg base (CX P w) 6 f_m_take_part d_m_take_part ["self", "with_stars"] (spRd C CB (rPart false) Rep [.bl false]) := ok_part F_m_take_part T b_m_accepts G_m_accepts m_m_accepts b_m_sees G_m_sees m_m_sees b_m_take_serial G_m_take_serial m_m_take_serial b_m_take_name G_m_take_name m_m_take_name false
  have G_path_false : FnOk P w K mg base (CX P w) 7 f_m_take_path d_m_take_path ["self", "with_stars"] (spRd C CB (rPath false) repL [.bl false]) := ok_path F_m_take_path T n_tuple false b_m_take_part G_part_false m_m_take_part b_m_accepts G_m_accepts m_m_accepts
  have G_m_take_place : FnOk P w K mg base (CX P w) 8 f_m_take_place d_m_take_place ["self"] (spRd C CB rPlace Rep []) := ok_place F_m_take_place T b_m_take_name G_m_take_name m_m_take_name b_m_expect G_m_expect m_m_expect b_m_take_path G_path_false m_m_take_path
  have G_m_take_spot : FnOk P w K mg base (CX P w) 8 f_m_take_spot d_m_take_spot ["self"] (spRd C CB rSpot Rep []) := ok_spot F_m_take_spot T b_m_take_name G_m_take_name m_m_take_name b_m_expect G_m_expect m_m_expect b_m_sees G_m_sees m_m_sees b_m_take_path G_path_true m_m_take_path
  have G_rec := ok_rec (P := P) (w := w) (base := base) F_m_take_record b_m_take_record m_m_take_record T N n_tuple b_m_refuse G_m_refuse m_m_refuse b_m_accepts G_m_accepts m_m_accepts b_m_sees G_m_sees m_m_sees b_m_expect G_m_expect m_m_expect b_m_take_name G_m_take_name m_m_take_name b_m_take_serial G_m_take_serial m_m_take_serial b_m_take_literal G_m_take_literal m_m_take_literal F_m_take_content b_m_take_content m_m_take_content F_m_take_rows b_m_take_rows m_m_take_rows
  have G_m_take_record : FnOk P w K mg base (CX P w) 126 f_m_take_record d_m_take_record ["self", "depth"] (spRd C CB (rRec 40) repL [.int 0]) := G_rec 40 (Nat.le_refl _)
  have G_take_step : FnOk P w K mg base (CX P w) 127 f_take_step d_take_step ["scanner"] (spFn C CB rStep Rep) := ok_step F_take_step T b_m_take_word G_m_take_word m_m_take_word b_m_refuse G_m_refuse m_m_refuse b_m_expect G_m_expect m_m_expect b_m_take_place G_m_take_place m_m_take_place b_m_take_literal G_m_take_literal m_m_take_literal b_m_take_serial G_m_take_serial m_m_take_serial b_m_take_number G_m_take_number m_m_take_number b_m_take_record G_m_take_record m_m_take_record
  have G_take_edit : FnOk P w K mg base (CX P w) 128 f_take_edit d_take_edit ["scanner"] (spFn C CB rTE repL) := ok_takeE F_take_edit T N2 b_m_accepts G_m_accepts m_m_accepts k_take_step b_take_step g_take_step G_take_step
  have G_read_edit : FnOk P w K mg base (CX P w) 129 f_read_edit d_read_edit ["text"] (spRead K CB rEdit) := ok_readE F_read_edit T Z M b_sinit G_sinit k_take_edit b_take_edit g_take_edit G_take_edit b_m_expect_end G_m_expect_end m_m_expect_end F_B b_B
  have G_take_serials : FnOk P w K mg base (CX P w) 6 f_take_serials d_take_serials ["scanner"] (spFn C CB rSers repL) := ok_takeS F_take_serials T N2 b_m_accepts G_m_accepts m_m_accepts b_m_sees G_m_sees m_m_sees b_m_expect G_m_expect m_m_expect b_m_take_serial G_m_take_serial m_m_take_serial
  have G_take_deed : FnOk P w K mg base (CX P w) 9 f_take_deed d_take_deed ["scanner"] (spFn C CB rDeed Rep) := ok_deed F_take_deed T b_m_take_word G_m_take_word m_m_take_word b_m_refuse G_m_refuse m_m_refuse b_m_expect G_m_expect m_m_expect b_m_take_name G_m_take_name m_m_take_name b_m_take_spot G_m_take_spot m_m_take_spot b_m_take_literal G_m_take_literal m_m_take_literal k_take_serials b_take_serials g_take_serials G_take_serials
  have G_ah := ok_aheads (P := P) (w := w) (base := base) F_comes_ahead Z n_tuple n_zip k_comes_ahead b_comes_ahead g_comes_ahead
  have G_comes_ahead : FnOk P w K mg base CX0 3 f_comes_ahead d_comes_ahead ["one", "other"] (spAhead 2) := G_ah 2
  have G_take_plan : FnOk P w K mg base (CX P w) 10 f_take_plan d_take_plan ["scanner"] (spFnP C CB) := ok_takeP F_take_plan T N2 Z b_m_accepts G_m_accepts m_m_accepts b_m_refuse G_m_refuse m_m_refuse k_take_deed b_take_deed g_take_deed G_take_deed k_comes_ahead b_comes_ahead g_comes_ahead G_comes_ahead
  have G_read_plan : FnOk P w K mg base (CX P w) 11 f_read_plan d_read_plan ["text"] (spReadF K CB (fun l => cnt 0 l < 62) rPlan) := ok_readP F_read_plan T Z M b_sinit G_sinit k_take_plan b_take_plan g_take_plan G_take_plan b_m_expect_end G_m_expect_end m_m_expect_end F_B b_B
  exact ⟨G_read_edit, G_read_plan⟩
end K9

set_option maxHeartbeats 4000000
/-! The law is told, over the readers that it asks. -/
namespace K9
open PySem PySem.Spec PyProof.Rows L2 K2
theorem law_all {P : Program} {w : World} {K : PySem.W.Frag} {mg : Str → Option Value} {base : Heap} {CB CK CE CP CL : Addr}
    {f_L_take f_L_of f_L_box f_L_name f_L_literal f_L_record f_L_label_path f_L_edit f_L_deeds f_L_any f_L_bent_text f_L_lit_text f_L_path_text f_L_place_text f_L_record_text f_L_worth_text f_L_step_text f_L_edit_text f_L_deed_text f_L_plan_text f_L_is_literal f_L_edit_fine f_L_plan_fine f_L_asked f_L_right f_read_edit f_read_plan f_law : Addr} {d_L_take d_L_of d_L_box d_L_name d_L_literal d_L_record d_L_label_path d_L_edit d_L_deeds d_L_any d_L_bent_text d_L_lit_text d_L_path_text d_L_place_text d_L_record_text d_L_worth_text d_L_step_text d_L_edit_text d_L_deed_text d_L_plan_text d_L_is_literal d_L_edit_fine d_L_plan_fine d_L_asked d_L_right d_law : FuncData}
    (Z : Bare mg)
    (n_tuple : mg "tuple" = none)
    (n_sorted : mg "sorted" = none)
    (hD : base.NoDigits)
    (n_bool : mg "bool" = none)
    (n_set : mg "set" = none)
    (R : Errs K mg CB CK CE CP CL)
    (A : ∀ f sp, ((f = f_read_edit ∧ sp = spReadF K CB (fun _ => True) rEdit) ∨ (f = f_read_plan ∧ sp = spReadF K CB (fun l => cnt 0 l < 62) rPlan)) → HeldX P w K mg base 129 f sp)
    (F_L_take : Fun K "_law_take" "_law_take" sTake f_L_take d_L_take)
    (F_L_of : Fun K "_law_of" "_law_of" sOf f_L_of d_L_of)
    (b_L_take : Binds K d_L_take ["_law_box_here", "_law_many"] [])
    (g_L_take : mg "_law_take" = some (.ref f_L_take))
    (F_L_box : Fun K "_law_box" "_law_box" sBox f_L_box d_L_box)
    (F_L_name : Fun K "_law_name" "_law_name" sName f_L_name d_L_name)
    (k_L_of : PySem.W.keepIn K (.ref f_L_of) = true)
    (b_L_of : Binds K d_L_of ["_law_box_here", "_law_some"] [])
    (g_L_of : mg "_law_of" = some (.ref f_L_of))
    (F_L_literal : Fun K "_law_literal" "_law_literal" sLiteral f_L_literal d_L_literal)
    (k_L_take : PySem.W.keepIn K (.ref f_L_take) = true)
    (F_L_record : Fun K "_law_record" "_law_record" sRec f_L_record d_L_record)
    (k_L_literal : PySem.W.keepIn K (.ref f_L_literal) = true)
    (b_L_literal : Binds K d_L_literal ["_law_box_here"] [])
    (g_L_literal : mg "_law_literal" = some (.ref f_L_literal))
    (k_L_name : PySem.W.keepIn K (.ref f_L_name) = true)
    (b_L_name : Binds K d_L_name ["_law_box_here"] [])
    (g_L_name : mg "_law_name" = some (.ref f_L_name))
    (k_L_record : PySem.W.keepIn K (.ref f_L_record) = true)
    (b_L_record : Binds K d_L_record ["_law_box_here", "_law_deep"] [])
    (g_L_record : mg "_law_record" = some (.ref f_L_record))
    (F_L_label_path : Fun K "_law_label_path" "_law_label_path" sLabP f_L_label_path d_L_label_path)
    (F_L_edit : Fun K "_law_edit" "_law_edit" sEdit f_L_edit d_L_edit)
    (k_L_label_path : PySem.W.keepIn K (.ref f_L_label_path) = true)
    (b_L_label_path : Binds K d_L_label_path ["_law_box_here", "_law_most"] [])
    (g_L_label_path : mg "_law_label_path" = some (.ref f_L_label_path))
    (F_L_deeds : Fun K "_law_deeds" "_law_deeds" sDeeds f_L_deeds d_L_deeds)
    (F_L_any : Fun K "_law_any" "_law_any" sAny f_L_any d_L_any)
    (k_L_any : PySem.W.keepIn K (.ref f_L_any) = true)
    (b_L_any : Binds K d_L_any ["_law_box_here", "_law_deep"] [])
    (g_L_any : mg "_law_any" = some (.ref f_L_any))
    (F_L_bent_text : Fun K "_law_bent_text" "_law_bent_text" sBent f_L_bent_text d_L_bent_text)
    (F_L_lit_text : Fun K "_law_lit_text" "_law_lit_text" sLitT f_L_lit_text d_L_lit_text)
    (F_L_path_text : Fun K "_law_path_text" "_law_path_text" sPathT f_L_path_text d_L_path_text)
    (F_L_place_text : Fun K "_law_place_text" "_law_place_text" sPlaceT f_L_place_text d_L_place_text)
    (k_L_path_text : PySem.W.keepIn K (.ref f_L_path_text) = true)
    (b_L_path_text : Binds K d_L_path_text ["_law_path"] [])
    (g_L_path_text : mg "_law_path_text" = some (.ref f_L_path_text))
    (F_L_record_text : Fun K "_law_record_text" "_law_record_text" sRecT f_L_record_text d_L_record_text)
    (k_L_lit_text : PySem.W.keepIn K (.ref f_L_lit_text) = true)
    (b_L_lit_text : Binds K d_L_lit_text ["_law_value"] [])
    (g_L_lit_text : mg "_law_lit_text" = some (.ref f_L_lit_text))
    (k_L_record_text : PySem.W.keepIn K (.ref f_L_record_text) = true)
    (b_L_record_text : Binds K d_L_record_text ["_law_record_here", "_law_has_serials"] [])
    (g_L_record_text : mg "_law_record_text" = some (.ref f_L_record_text))
    (F_L_worth_text : Fun K "_law_worth_text" "_law_worth_text" sWorthT f_L_worth_text d_L_worth_text)
    (k_L_worth_text : PySem.W.keepIn K (.ref f_L_worth_text) = true)
    (b_L_worth_text : Binds K d_L_worth_text ["_law_value", "_law_has_serials"] [])
    (g_L_worth_text : mg "_law_worth_text" = some (.ref f_L_worth_text))
    (F_L_step_text : Fun K "_law_step_text" "_law_step_text" sStepT f_L_step_text d_L_step_text)
    (k_L_place_text : PySem.W.keepIn K (.ref f_L_place_text) = true)
    (b_L_place_text : Binds K d_L_place_text ["_law_place"] [])
    (g_L_place_text : mg "_law_place_text" = some (.ref f_L_place_text))
    (F_L_edit_text : Fun K "_law_edit_text" "_law_edit_text" sEditT f_L_edit_text d_L_edit_text)
    (k_L_step_text : PySem.W.keepIn K (.ref f_L_step_text) = true)
    (b_L_step_text : Binds K d_L_step_text ["_law_step"] [])
    (g_L_step_text : mg "_law_step_text" = some (.ref f_L_step_text))
    (F_L_deed_text : Fun K "_law_deed_text" "_law_deed_text" sDeedT f_L_deed_text d_L_deed_text)
    (F_L_plan_text : Fun K "_law_plan_text" "_law_plan_text" sPlanT f_L_plan_text d_L_plan_text)
    (k_L_deed_text : PySem.W.keepIn K (.ref f_L_deed_text) = true)
    (b_L_deed_text : Binds K d_L_deed_text ["_law_deed"] [])
    (g_L_deed_text : mg "_law_deed_text" = some (.ref f_L_deed_text))
    (F_L_is_literal : Fun K "_law_is_literal" "_law_is_literal" sIsLit f_L_is_literal d_L_is_literal)
    (F_L_edit_fine : Fun K "_law_edit_fine" "_law_edit_fine" sEFine f_L_edit_fine d_L_edit_fine)
    (k_L_is_literal : PySem.W.keepIn K (.ref f_L_is_literal) = true)
    (b_L_is_literal : Binds K d_L_is_literal ["_law_value"] [])
    (g_L_is_literal : mg "_law_is_literal" = some (.ref f_L_is_literal))
    (F_L_plan_fine : Fun K "_law_plan_fine" "_law_plan_fine" sPFine f_L_plan_fine d_L_plan_fine)
    (F_L_asked : Fun K "_law_asked" "_law_asked" sAsked f_L_asked d_L_asked)
    (F_L_right : Fun K "_law_right" "_law_right" sRight f_L_right d_L_right)
    (k_L_edit : PySem.W.keepIn K (.ref f_L_edit) = true)
    (b_L_edit : Binds K d_L_edit ["_law_box_here"] [])
    (g_L_edit : mg "_law_edit" = some (.ref f_L_edit))
    (k_L_deeds : PySem.W.keepIn K (.ref f_L_deeds) = true)
    (b_L_deeds : Binds K d_L_deeds ["_law_box_here"] [])
    (g_L_deeds : mg "_law_deeds" = some (.ref f_L_deeds))
    (k_L_bent_text : PySem.W.keepIn K (.ref f_L_bent_text) = true)
    (b_L_bent_text : Binds K d_L_bent_text ["_law_box_here", "_law_page", "_law_other"] [])
    (g_L_bent_text : mg "_law_bent_text" = some (.ref f_L_bent_text))
    (k_L_asked : PySem.W.keepIn K (.ref f_L_asked) = true)
    (b_L_asked : Binds K d_L_asked ["_law_ask", "_law_value"] [])
    (g_L_asked : mg "_law_asked" = some (.ref f_L_asked))
    (g_read_edit : mg "read_edit" = some (.ref f_read_edit))
    (g_read_plan : mg "read_plan" = some (.ref f_read_plan))
    (k_read_edit : PySem.W.keepIn K (.ref f_read_edit) = true)
    (k_read_plan : PySem.W.keepIn K (.ref f_read_plan) = true)
    (k_L_edit_text : PySem.W.keepIn K (.ref f_L_edit_text) = true)
    (b_L_edit_text : Binds K d_L_edit_text ["_law_made_of"] [])
    (g_L_edit_text : mg "_law_edit_text" = some (.ref f_L_edit_text))
    (k_L_plan_text : PySem.W.keepIn K (.ref f_L_plan_text) = true)
    (b_L_plan_text : Binds K d_L_plan_text ["_law_made_of"] [])
    (g_L_plan_text : mg "_law_plan_text" = some (.ref f_L_plan_text))
    (k_L_edit_fine : PySem.W.keepIn K (.ref f_L_edit_fine) = true)
    (b_L_edit_fine : Binds K d_L_edit_fine ["_law_found"] [])
    (g_L_edit_fine : mg "_law_edit_fine" = some (.ref f_L_edit_fine))
    (k_L_plan_fine : PySem.W.keepIn K (.ref f_L_plan_fine) = true)
    (b_L_plan_fine : Binds K d_L_plan_fine ["_law_found"] [])
    (g_L_plan_fine : mg "_law_plan_fine" = some (.ref f_L_plan_fine))
    (F_law : Fun K "law" "law" sLaw f_law d_law)
    (k_L_box : PySem.W.keepIn K (.ref f_L_box) = true)
    (b_L_box : Binds K d_L_box ["_law_script", "_law_k"] [])
    (g_L_box : mg "_law_box" = some (.ref f_L_box))
    (k_L_right : PySem.W.keepIn K (.ref f_L_right) = true)
    (b_L_right : Binds K d_L_right ["_law_box_here"] [])
    (g_L_right : mg "_law_right" = some (.ref f_L_right)) :
    FnG P w K mg base 132 f_law d_law ["_law_script"] (spLaw K) := by
  have G_L_take : FnOk P w K mg base CX0 1 f_L_take d_L_take ["_law_box_here", "_law_many"] spTake := ok_take F_L_take
  have G_L_of : FnOk P w K mg base CX0 2 f_L_of d_L_of ["_law_box_here", "_law_some"] spOf := ok_of F_L_of F_L_take b_L_take g_L_take Z
  have G_L_box : FnOk P w K mg base CX0 1 f_L_box d_L_box ["_law_script", "_law_k"] (spBox K) := ok_box F_L_box Z
  have G_L_name : FnOk P w K mg base CX0 3 f_L_name d_L_name ["_law_box_here"] spName := ok_nameD F_L_name k_L_of b_L_of g_L_of G_L_of
  have G_L_literal : FnOk P w K mg base CX0 3 f_L_literal d_L_literal ["_law_box_here"] spLitD := ok_litD F_L_literal k_L_take b_L_take g_L_take G_L_take k_L_of b_L_of g_L_of G_L_of
  have G_recD := ok_recD (P := P) (w := w) (base := base) F_L_record Z n_tuple k_L_take b_L_take g_L_take G_L_take k_L_literal b_L_literal g_L_literal G_L_literal k_L_name b_L_name g_L_name G_L_name k_L_record b_L_record g_L_record
  have G_L_record : FnOk P w K mg base CX0 7 f_L_record d_L_record ["_law_box_here", "_law_deep"] (spRecD 4) := G_recD 4
  have G_L_label_path : FnOk P w K mg base CX0 4 f_L_label_path d_L_label_path ["_law_box_here", "_law_most"] spLabP := ok_labP F_L_label_path Z k_L_take b_L_take g_L_take G_L_take k_L_of b_L_of g_L_of G_L_of k_L_name b_L_name g_L_name G_L_name
  have G_L_edit : FnOk P w K mg base CX0 8 f_L_edit d_L_edit ["_law_box_here"] spEditD := ok_editD F_L_edit Z k_L_take b_L_take g_L_take G_L_take k_L_of b_L_of g_L_of G_L_of k_L_name b_L_name g_L_name G_L_name k_L_literal b_L_literal g_L_literal G_L_literal k_L_label_path b_L_label_path g_L_label_path G_L_label_path k_L_record b_L_record g_L_record G_L_record
  have G_L_deeds : FnOk P w K mg base CX0 4 f_L_deeds d_L_deeds ["_law_box_here"] spDeedsD := ok_deedsD F_L_deeds Z n_tuple n_sorted k_L_take b_L_take g_L_take G_L_take k_L_of b_L_of g_L_of G_L_of k_L_name b_L_name g_L_name G_L_name k_L_literal b_L_literal g_L_literal G_L_literal
  have G_any := ok_anyD (P := P) (w := w) (base := base) F_L_any Z n_tuple k_L_take b_L_take g_L_take G_L_take k_L_of b_L_of g_L_of G_L_of k_L_any b_L_any g_L_any
  have G_L_any : FnOk P w K mg base CX0 5 f_L_any d_L_any ["_law_box_here", "_law_deep"] (spAnyD 3) := G_any 3
  have G_L_bent_text : FnOk P w K mg base CX0 3 f_L_bent_text d_L_bent_text ["_law_box_here", "_law_page", "_law_other"] spBent := ok_bent F_L_bent_text Z k_L_take b_L_take g_L_take G_L_take k_L_of b_L_of g_L_of G_L_of
  have G_L_lit_text : FnOk P w K mg base CX0 1 f_L_lit_text d_L_lit_text ["_law_value"] (spTx pLit fun d => Atom d ∧ ∀ i, d = .int i → (pI i).length ≤ 1001) := ok_litT F_L_lit_text Z hD
  have G_L_path_text : FnOk P w K mg base CX0 1 f_L_path_text d_L_path_text ["_law_path"] (spTx (fun d => match d with | .tup ds => pPath ds | _ => []) fun d => ∃ ds, d = .tup ds ∧ PathOk ds) := ok_pathT F_L_path_text Z hD
  have G_L_place_text : FnOk P w K mg base CX0 2 f_L_place_text d_L_place_text ["_law_place"] (spTx pPlace fun d => ∃ n p, d = .tup [.str n, .tup p] ∧ PathOk p) := ok_placeT F_L_place_text k_L_path_text b_L_path_text g_L_path_text G_L_path_text
  have G_recTs := ok_recTs (P := P) (w := w) (base := base) F_L_record_text Z hD n_tuple k_L_lit_text b_L_lit_text g_L_lit_text G_L_lit_text k_L_record_text b_L_record_text g_L_record_text F_L_worth_text k_L_worth_text b_L_worth_text g_L_worth_text
  have G_L_record_text : FnOk P w K mg base CX0 81 f_L_record_text d_L_record_text ["_law_record_here", "_law_has_serials"] (spRecT 40) := G_recTs 40
  have G_L_step_text : FnOk P w K mg base CX0 82 f_L_step_text d_L_step_text ["_law_step"] (spTx pStep StepFine) := ok_stepT F_L_step_text Z hD k_L_place_text b_L_place_text g_L_place_text G_L_place_text k_L_lit_text b_L_lit_text g_L_lit_text G_L_lit_text k_L_record_text b_L_record_text g_L_record_text G_L_record_text
  have G_L_edit_text : FnOk P w K mg base CX0 (82 + 1) f_L_edit_text d_L_edit_text ["_law_made_of"] (spAllT pEdit StepFine) := ok_editT F_L_edit_text k_L_step_text b_L_step_text g_L_step_text G_L_step_text
  have G_L_deed_text : FnOk P w K mg base CX0 2 f_L_deed_text d_L_deed_text ["_law_deed"] (spTx pDeed DeedFine) := ok_deedT F_L_deed_text Z hD k_L_path_text b_L_path_text g_L_path_text G_L_path_text k_L_lit_text b_L_lit_text g_L_lit_text G_L_lit_text
  have G_L_plan_text : FnOk P w K mg base CX0 (2 + 1) f_L_plan_text d_L_plan_text ["_law_made_of"] (spAllT pPlan DeedFine) := ok_planT F_L_plan_text k_L_deed_text b_L_deed_text g_L_deed_text G_L_deed_text
  have G_L_is_literal : FnOk P w K mg base CX0 1 f_L_is_literal d_L_is_literal ["_law_value"] spIsLit := ok_isLit F_L_is_literal Z n_bool
  have G_L_edit_fine : FnOk P w K mg base CX0 2 f_L_edit_fine d_L_edit_fine ["_law_found"] spEFine := ok_eFine F_L_edit_fine Z n_tuple k_L_is_literal b_L_is_literal g_L_is_literal G_L_is_literal
  have G_L_plan_fine : FnG P w K mg base 2 f_L_plan_fine d_L_plan_fine ["_law_found"] spPFine := ok_pFine F_L_plan_fine Z n_tuple n_set k_L_is_literal b_L_is_literal g_L_is_literal G_L_is_literal
  have G_L_asked : FnG P w K mg base 130 f_L_asked d_L_asked ["_law_ask", "_law_value"] (spAsked K f_read_edit f_read_plan) := ok_asked F_L_asked Z R A
  have G_L_right : FnG P w K mg base 131 f_L_right d_L_right ["_law_box_here"] spRight := ok_right F_L_right Z k_L_edit b_L_edit g_L_edit G_L_edit k_L_deeds b_L_deeds g_L_deeds G_L_deeds k_L_bent_text b_L_bent_text g_L_bent_text G_L_bent_text k_L_asked b_L_asked g_L_asked G_L_asked g_read_edit g_read_plan k_read_edit k_read_plan k_L_edit_text b_L_edit_text g_L_edit_text G_L_edit_text k_L_plan_text b_L_plan_text g_L_plan_text G_L_plan_text k_L_edit_fine b_L_edit_fine g_L_edit_fine G_L_edit_fine k_L_plan_fine b_L_plan_fine g_L_plan_fine G_L_plan_fine
  have G_law : FnG P w K mg base 132 f_law d_law ["_law_script"] (spLaw K) := ok_law F_law Z k_L_box b_L_box g_L_box G_L_box k_L_any b_L_any g_L_any G_L_any k_L_right b_L_right g_L_right G_L_right k_L_asked b_L_asked g_L_asked G_L_asked g_read_edit g_read_plan k_read_edit k_read_plan
  exact G_law
end K9

set_option maxHeartbeats 4000000
namespace K9
open PySem PySem.Spec PyProof.Rows L2 K2
section
variable {P : Program} {w : World} {K : PySem.W.Frag} {mg mb : Str → Option Value} {k : Nat} {fa a : Addr} {fd : FuncData} {x : Str} {sp : Sp}
  {s₁ : Shared} {vs : List Value} {ns : List Int}

/-- the law's call from an abstract heap that tracks the script alone, or nothing -/
theorem from_heap (KX : K.In s₁.heap) (hns : s₁.heap.Ns mainGlobals mg) (hb : s₁.heap.Ns builtinsNs mb)
    (hbb : ∀ y : Str, y ≠ "__name__" → mb y = bootBuiltins y) (nol : s₁.heap.NoLimit) (nod : s₁.heap.NoDigits) (gens : s₁.gens = #[])
    (obj : s₁.heap.get? a = some { cls := .type "list", data := .seq vs.toArray }) (room : Room k callerA)
    (F : ∀ base : Heap, K.In base → base.Ns mainGlobals mg → base.NoDigits → FnG P w K mg base k fa fd [x] sp)
    (bd : ∀ (s : Shared) (u : Value), BindsTo s fd ⟨[u], []⟩ [(x, u)]) (H : Hp)
    (only : ∀ b, H b = none ∨ (b = a ∧ K.lookup a = none ∧ ∃ o xs, H b = some (.frz o (.lst xs)))) (ok : HOk P w H s₁.heap)
    (want : sp [.ref a] H (fun v _ => v = .bl true) fun _ _ _ => False) :
    codeAny (model P w) callerA (.call (.ref fa) ⟨[.ref a], []⟩)
      (fun r s' => r = .ok (.ret (.bool true)) ∧ OldK s₁.heap s'.heap ∧ s'.os = s₁.os ∧ AllBare s'.gens) s₁ := by
  -- what stands in the heap and is not tracked stands in the base, too
  have stay : ∀ {b : Addr} {o : Obj}, s₁.heap.get? b = some o → H b = none → (hidT s₁.heap H).get? b = some o := fun h n => hidT_get h n
  have dict : ∀ {b : Addr} {o : Obj} {es : Array DictEntry} {ep : Nat}, s₁.heap.get? b = some o → o.data = .dict es ep → H b = none := by
    intro b o es ep h d
    rcases only b with z | ⟨rfl, _⟩
    · exact z
    · rw [obj] at h
      cases h
      exact absurd d (by intro q; cases q)
  have names : ∀ {b : Addr} {m : Str → Option Value}, s₁.heap.Ns b m → (hidT s₁.heap H).Ns b m := by
    rintro b m ⟨o, es, ep, h, d, r⟩
    exact ⟨o, es, ep, stay h (dict h d), d, r⟩
  have kin : K.In (hidT s₁.heap H) := fun b o h => by
    refine stay (KX b o h) ?_
    rcases only b with z | ⟨rfl, n, _⟩
    · exact z
    · rw [n] at h
      cases h
  obtain ⟨mc, c1, c2⟩ := nol
  obtain ⟨md, d1, d2⟩ := nod
  have mod : Mod K mg (hidT s₁.heap H) := ⟨kin, names hns, ⟨mb, names hb, hbb⟩, ⟨mc, names c1, c2⟩⟩
  have e0 : Env0 P w K mg (hidT s₁.heap H) callerA [] s₁ H := by
    refine ⟨rfl, mod, fun b o h => of_hidT h, Nat.le_of_eq (hidT_size _ _), trivial, fun b h => ?_, ok, .of_eq gens⟩
    exact absurd (show b ∈ ([] : List Addr) from h) List.not_mem_nil
  refine codeAny_mono ((F _ kin (names hns) ⟨md, names d1, d2⟩).run callerA [] s₁ H ⟨[.ref a], []⟩ [.ref a] [.ref a] _ _ rfl room e0
    (bd s₁ (.ref a)) (.cons rfl .nil) want) ?_
  rintro (⟨e⟩ | ⟨fl⟩) s' h
  · exact False.elim h
  · rcases fl with _ | _ | _ | u
    · exact False.elim h
    · exact False.elim h
    · exact False.elim h
    · obtain ⟨v, H', os, bare, un, ok', r', q⟩ := h
      obtain rfl : v = .bl true := q
      obtain rfl : u = Value.bool true := r'
      refine ⟨rfl, OldK.of_keep fun b o h => ?_, os, bare⟩
      rcases only b with z | ⟨rfl, _, ob, xs, z⟩
      · exact un.keep b o h z (fun y => absurd (show b ∈ ([] : List Addr) from y) List.not_mem_nil) List.not_mem_nil
      · have z2 := un.frzs b ob _ z
        obtain ⟨e1, _⟩ := ok b _ z
        obtain ⟨e2, _⟩ := ok' b _ z2
        rw [h] at e1
        cases e1
        exact e2

/-- the same from the script alone -/
theorem from_script (KX : K.In s₁.heap) (hns : s₁.heap.Ns mainGlobals mg) (hb : s₁.heap.Ns builtinsNs mb)
    (hbb : ∀ y : Str, y ≠ "__name__" → mb y = bootBuiltins y) (nol : s₁.heap.NoLimit) (nod : s₁.heap.NoDigits) (gens : s₁.gens = #[])
    (obj : s₁.heap.get? a = some { cls := .type "list", data := .seq vs.toArray }) (nums : IntsAre vs ns) (len : ns.length ≤ sizeLine)
    (room : Room k callerA) (F : ∀ base : Heap, K.In base → base.Ns mainGlobals mg → base.NoDigits → FnG P w K mg base k fa fd [x] sp)
    (bd : ∀ (s : Shared) (u : Value), BindsTo s fd ⟨[u], []⟩ [(x, u)])
    (want : ∀ H : Hp, SqL K H a (ns.map V.int) → sp [.ref a] H (fun v _ => v = .bl true) fun _ _ _ => False) :
    codeAny (model P w) callerA (.call (.ref fa) ⟨[.ref a], []⟩)
      (fun r s' => r = .ok (.ret (.bool true)) ∧ OldK s₁.heap s'.heap ∧ s'.os = s₁.os ∧ AllBare s'.gens) s₁ := by
  have rel := vals_ints nums
  have size := nums.length
  cases kl : K.lookup a with
  | some o =>
    have e := KX a o kl
    rw [obj] at e
    cases e
    refine from_heap KX hns hb hbb nol nod gens obj room F bd (fun _ => none) (fun b => .inl rfl) (fun b u z => by cases (show (none : Option HO) = some u from z))
      (want _ (.inr ⟨_, vs.toArray, _, kl, rfl, rfl, rfl, ?_, by simpa using rel⟩))
    rw [List.size_toArray, size]
    exact len
  | none =>
    refine from_heap KX hns hb hbb nol nod gens obj room F bd
      (fun b => if b = a then some (.frz { cls := .type "list", data := .seq vs.toArray } (.lst (ns.map V.int))) else none) (fun b => ?_) (fun b u z => ?_)
      (want _ (.inl (.inr ⟨{ cls := .type "list", data := .seq vs.toArray }, if_pos rfl⟩)))
    · by_cases h : b = a
      · exact .inr ⟨h, kl, _, _, if_pos h⟩
      · exact .inl (if_neg h)
    · by_cases h : b = a
      · have z2 := (if_pos h).symm.trans z
        cases z2
        subst h
        exact ⟨obj, by rw [List.length_map]; exact len, vs, _, rel, obj⟩
      · have z2 := (if_neg h).symm.trans z
        cases z2
end

theorem walkG {l : PySem.W.OpenLaw} {n k : Nat} {q : Program} {loose : List Str} {XP : (Str → Option Value) → Heap → Prop}
    {YP : World → Heap → Prop} {d : DefRec} {K : Params → PySem.W.Frag} {sp : PySem.W.Frag → Sp} {x : Str}
    (most : l.most = some n) (small : n ≤ sizeLine) (plain : d.params.defaults = []) (room : Room k callerA)
    (hY : ∀ (w : World) (h : Heap), YP w h → (K w.params).In h)
    (F : ∀ (w : World) (mg : Str → Option Value) (fa : Addr) (h : Heap), (K w.params).In h → h.Ns mainGlobals mg → mg d.name = some (.ref fa) →
      ∃ fd : FuncData, (∀ (s : Shared) (u : Value), BindsTo s fd ⟨[u], []⟩ [(x, u)]) ∧
        ∀ base : Heap, (K w.params).In base → base.Ns mainGlobals mg → base.NoDigits → FnG l.prog w (K w.params) mg base k fa fd [x] (sp (K w.params)))
    (want : ∀ (K : PySem.W.Frag) (H : Hp) (a : Addr) (ns : List Int), ns.length ≤ n → SqL K H a (ns.map V.int) →
      sp K [.ref a] H (fun v _ => v = .bl true) fun _ _ _ => False) :
    PySem.W.WalkO q loose XP YP l.row.toRowW d [] (fun f vs => PySem.call f vs) := by
  refine Att.attach_call most plain fun w s₀ s₁ mg mb fa o pm cd doc a vs ns G Y ho hd hcd hmg obj nums len gens => ?_
  have KX := hY w _ Y
  obtain ⟨fd, bd, FF⟩ := F w mg fa _ KX G.T.g hmg
  exact from_script KX G.T.g G.T.b G.T.builtins G.T.nolimit G.T.nodigits gens obj nums (Nat.le_trans len small) room FF bd fun H hS => want _ H a ns len hS

/-! ### what the top has written -/
theorem all_mk {l : PySem.W.OpenLaw} {w : World} {K : PySem.W.Frag} {h : Heap} {mg : Str → Option Value} {fa : Addr} (X : K.In h)
    (G : h.Ns mainGlobals mg) (hfa : mg "law" = some (.ref fa)) {C CB CK CE CP CL pW f_sinit f_run_end f_string_end f_is_inner f_m_refuse fB f_m_sees f_m_accepts f_m_expect f_m_expect_end f_m_take_to f_is_name f_number_in f_m_take_word f_m_take_name f_m_take_number f_m_take_serial f_m_take_literal f_m_take_part f_m_take_path f_m_take_place f_m_take_spot f_m_take_record f_m_take_content f_m_take_rows f_take_step f_take_edit f_read_edit f_take_serials f_take_deed f_comes_ahead f_take_plan f_read_plan f_L_take f_L_of f_L_box f_L_name f_L_literal f_L_record f_L_label_path f_L_edit f_L_deeds f_L_any f_L_bent_text f_L_lit_text f_L_path_text f_L_place_text f_L_record_text f_L_worth_text f_L_step_text f_L_edit_text f_L_deed_text f_L_plan_text f_L_is_literal f_L_edit_fine f_L_plan_fine f_L_asked f_L_right f_law : Addr}
    {odW od_sinit od_run_end od_string_end od_is_inner od_m_refuse od_B od_m_sees od_m_accepts od_m_expect od_m_expect_end od_m_take_to od_is_name od_number_in od_m_take_word od_m_take_name od_m_take_number od_m_take_serial od_m_take_literal od_m_take_part od_m_take_path od_m_take_place od_m_take_spot od_m_take_record od_m_take_content od_m_take_rows od_take_step od_take_edit od_read_edit od_take_serials od_take_deed od_comes_ahead od_take_plan od_read_plan od_L_take od_L_of od_L_box od_L_name od_L_literal od_L_record od_L_label_path od_L_edit od_L_deeds od_L_any od_L_bent_text od_L_lit_text od_L_path_text od_L_place_text od_L_record_text od_L_worth_text od_L_step_text od_L_edit_text od_L_deed_text od_L_plan_text od_L_is_literal od_L_edit_fine od_L_plan_fine od_L_asked od_L_right od_law an_sinit an_run_end an_string_end an_is_inner an_m_refuse an_B an_m_sees an_m_accepts an_m_expect an_m_expect_end an_m_take_to an_is_name an_number_in an_m_take_word an_m_take_name an_m_take_number an_m_take_serial an_m_take_literal an_m_take_part an_m_take_path an_m_take_place an_m_take_spot an_m_take_record an_m_take_content an_m_take_rows an_take_step an_take_edit an_read_edit an_take_serials an_take_deed an_comes_ahead an_take_plan an_read_plan an_L_take an_L_of an_L_box an_L_name an_L_literal an_L_record an_L_label_path an_L_edit an_L_deeds an_L_any an_L_bent_text an_L_lit_text an_L_path_text an_L_place_text an_L_record_text an_L_worth_text an_L_step_text an_L_edit_text an_L_deed_text an_L_plan_text an_L_is_literal an_L_edit_fine an_L_plan_fine an_L_asked an_L_right an_law : Option Addr} {slW sl_sinit sl_run_end sl_string_end sl_is_inner sl_m_refuse sl_B sl_m_sees sl_m_accepts sl_m_expect sl_m_expect_end sl_m_take_to sl_is_name sl_number_in sl_m_take_word sl_m_take_name sl_m_take_number sl_m_take_serial sl_m_take_literal sl_m_take_part sl_m_take_path sl_m_take_place sl_m_take_spot sl_m_take_record sl_m_take_content sl_m_take_rows sl_take_step sl_take_edit sl_read_edit sl_take_serials sl_take_deed sl_comes_ahead sl_take_plan sl_read_plan sl_L_take sl_L_of sl_L_box sl_L_name sl_L_literal sl_L_record sl_L_label_path sl_L_edit sl_L_deeds sl_L_any sl_L_bent_text sl_L_lit_text sl_L_path_text sl_L_place_text sl_L_record_text sl_L_worth_text sl_L_step_text sl_L_edit_text sl_L_deed_text sl_L_plan_text sl_L_is_literal sl_L_edit_fine sl_L_plan_fine sl_L_asked sl_L_right sl_law : Array (Option Value)}
    {oc_sinit oc_run_end oc_string_end oc_is_inner oc_m_refuse oc_B oc_m_sees oc_m_accepts oc_m_expect oc_m_expect_end oc_m_take_to oc_is_name oc_number_in oc_m_take_word oc_m_take_name oc_m_take_number oc_m_take_serial oc_m_take_literal oc_m_take_part oc_m_take_path oc_m_take_place oc_m_take_spot oc_m_take_record oc_m_take_content oc_m_take_rows oc_take_step oc_take_edit oc_read_edit oc_take_serials oc_take_deed oc_comes_ahead oc_take_plan oc_read_plan oc_L_take oc_L_of oc_L_box oc_L_name oc_L_literal oc_L_record oc_L_label_path oc_L_edit oc_L_deeds oc_L_any oc_L_bent_text oc_L_lit_text oc_L_path_text oc_L_place_text oc_L_record_text oc_L_worth_text oc_L_step_text oc_L_edit_text oc_L_deed_text oc_L_plan_text oc_L_is_literal oc_L_edit_fine oc_L_plan_fine oc_L_asked oc_L_right oc_law kV_sinit kV_run_end kV_string_end kV_is_inner kV_m_refuse kV_B kV_m_sees kV_m_accepts kV_m_expect kV_m_expect_end kV_m_take_to kV_is_name kV_number_in kV_m_take_word kV_m_take_name kV_m_take_number kV_m_take_serial kV_m_take_literal kV_m_take_part kV_m_take_path kV_m_take_place kV_m_take_spot kV_m_take_record kV_m_take_content kV_m_take_rows kV_take_step kV_take_edit kV_read_edit kV_take_serials kV_take_deed kV_comes_ahead kV_take_plan kV_read_plan kV_L_take kV_L_of kV_L_box kV_L_name kV_L_literal kV_L_record kV_L_label_path kV_L_edit kV_L_deeds kV_L_any kV_L_bent_text kV_L_lit_text kV_L_path_text kV_L_place_text kV_L_record_text kV_L_worth_text kV_L_step_text kV_L_edit_text kV_L_deed_text kV_L_plan_text kV_L_is_literal kV_L_edit_fine kV_L_plan_fine kV_L_asked kV_L_right kV_law dc_sinit dc_run_end dc_string_end dc_is_inner dc_m_refuse dc_B dc_m_sees dc_m_accepts dc_m_expect dc_m_expect_end dc_m_take_to dc_is_name dc_number_in dc_m_take_word dc_m_take_name dc_m_take_number dc_m_take_serial dc_m_take_literal dc_m_take_part dc_m_take_path dc_m_take_place dc_m_take_spot dc_m_take_record dc_m_take_content dc_m_take_rows dc_take_step dc_take_edit dc_read_edit dc_take_serials dc_take_deed dc_comes_ahead dc_take_plan dc_read_plan dc_L_take dc_L_of dc_L_box dc_L_name dc_L_literal dc_L_record dc_L_label_path dc_L_edit dc_L_deeds dc_L_any dc_L_bent_text dc_L_lit_text dc_L_path_text dc_L_place_text dc_L_record_text dc_L_worth_text dc_L_step_text dc_L_edit_text dc_L_deed_text dc_L_plan_text dc_L_is_literal dc_L_edit_fine dc_L_plan_fine dc_L_asked dc_L_right dc_law pm_sinit pm_run_end pm_string_end pm_is_inner pm_m_refuse pm_B pm_m_sees pm_m_accepts pm_m_expect pm_m_expect_end pm_m_take_to pm_is_name pm_number_in pm_m_take_word pm_m_take_name pm_m_take_number pm_m_take_serial pm_m_take_literal pm_m_take_part pm_m_take_path pm_m_take_place pm_m_take_spot pm_m_take_record pm_m_take_content pm_m_take_rows pm_take_step pm_take_edit pm_read_edit pm_take_serials pm_take_deed pm_comes_ahead pm_take_plan pm_read_plan pm_L_take pm_L_of pm_L_box pm_L_name pm_L_literal pm_L_record pm_L_label_path pm_L_edit pm_L_deeds pm_L_any pm_L_bent_text pm_L_lit_text pm_L_path_text pm_L_place_text pm_L_record_text pm_L_worth_text pm_L_step_text pm_L_edit_text pm_L_deed_text pm_L_plan_text pm_L_is_literal pm_L_edit_fine pm_L_plan_fine pm_L_asked pm_L_right pm_law cd_sinit cd_run_end cd_string_end cd_is_inner cd_m_refuse cd_B cd_m_sees cd_m_accepts cd_m_expect cd_m_expect_end cd_m_take_to cd_is_name cd_number_in cd_m_take_word cd_m_take_name cd_m_take_number cd_m_take_serial cd_m_take_literal cd_m_take_part cd_m_take_path cd_m_take_place cd_m_take_spot cd_m_take_record cd_m_take_content cd_m_take_rows cd_take_step cd_take_edit cd_read_edit cd_take_serials cd_take_deed cd_comes_ahead cd_take_plan cd_read_plan cd_L_take cd_L_of cd_L_box cd_L_name cd_L_literal cd_L_record cd_L_label_path cd_L_edit cd_L_deeds cd_L_any cd_L_bent_text cd_L_lit_text cd_L_path_text cd_L_place_text cd_L_record_text cd_L_worth_text cd_L_step_text cd_L_edit_text cd_L_deed_text cd_L_plan_text cd_L_is_literal cd_L_edit_fine cd_L_plan_fine cd_L_asked cd_L_right cd_law ct_sinit ct_run_end ct_string_end ct_is_inner ct_m_refuse ct_B ct_m_sees ct_m_accepts ct_m_expect ct_m_expect_end ct_m_take_to ct_is_name ct_number_in ct_m_take_word ct_m_take_name ct_m_take_number ct_m_take_serial ct_m_take_literal ct_m_take_part ct_m_take_path ct_m_take_place ct_m_take_spot ct_m_take_record ct_m_take_content ct_m_take_rows ct_take_step ct_take_edit ct_read_edit ct_take_serials ct_take_deed ct_comes_ahead ct_take_plan ct_read_plan ct_L_take ct_L_of ct_L_box ct_L_name ct_L_literal ct_L_record ct_L_label_path ct_L_edit ct_L_deeds ct_L_any ct_L_bent_text ct_L_lit_text ct_L_path_text ct_L_place_text ct_L_record_text ct_L_worth_text ct_L_step_text ct_L_edit_text ct_L_deed_text ct_L_plan_text ct_L_is_literal ct_L_edit_fine ct_L_plan_fine ct_L_asked ct_L_right ct_law : Value} {eW : Nat} {oC : Obj} {oK oE oP oL : Value} {dK dE dP dL : Option Addr} {eK eE eP eL : ClassData} {wK wE wP wL : Array (Option Value)}
    {t1 t2 t3 t4 t5 t6 t7 t8 t9 t10 t11 u0 u1 u2 u3 u4 u5 u6 u7 u8 u9 u10 u11 u12 : Tok}
    (yC : PySem.W.nsIn K mainGlobals "Scanner" = some (some (.ref C)))
    (yB : PySem.W.nsIn K mainGlobals "BadText" = some (some (.ref CB)))
    (yK : PySem.W.nsIn K mainGlobals "BackError" = some (some (.ref CK)))
    (yE : PySem.W.nsIn K mainGlobals "BadEdit" = some (some (.ref CE)))
    (yP : PySem.W.nsIn K mainGlobals "BadPlan" = some (some (.ref CP)))
    (yL : PySem.W.nsIn K mainGlobals "BadLine" = some (some (.ref CL)))
    (a_sinit : PySem.W.findIn K (.ref C) "__init__" = some (some (.ref f_sinit)))
    (i_sinit : PySem.W.isFn K (.ref f_sinit) = true)
    (l_sinit : K.lookup f_sinit = some ⟨oc_sinit, od_sinit, .func (PySem.W.fnOf "__init__" "Scanner.__init__" (defArgs mInit) (defBody mInit) (defScope mInit) .none kV_sinit dc_sinit pm_sinit an_sinit cd_sinit ct_sinit), sl_sinit⟩)
    (c_sinit : PySem.W.codeIn K cd_sinit "Scanner.__init__" = true)
    (k_sinit : PySem.W.keepIn K (.ref f_sinit) = true)
    (a_run_end : PySem.W.nsIn K mainGlobals "run_end" = some (some (.ref f_run_end)))
    (l_run_end : K.lookup f_run_end = some ⟨oc_run_end, od_run_end, .func (PySem.W.fnOf "run_end" "run_end" (defArgs sRun) (defBody sRun) (defScope sRun) .none kV_run_end dc_run_end pm_run_end an_run_end cd_run_end ct_run_end), sl_run_end⟩)
    (c_run_end : PySem.W.codeIn K cd_run_end "run_end" = true)
    (k_run_end : PySem.W.keepIn K (.ref f_run_end) = true)
    (a_string_end : PySem.W.nsIn K mainGlobals "string_end" = some (some (.ref f_string_end)))
    (l_string_end : K.lookup f_string_end = some ⟨oc_string_end, od_string_end, .func (PySem.W.fnOf "string_end" "string_end" (defArgs sStrEnd) (defBody sStrEnd) (defScope sStrEnd) .none kV_string_end dc_string_end pm_string_end an_string_end cd_string_end ct_string_end), sl_string_end⟩)
    (c_string_end : PySem.W.codeIn K cd_string_end "string_end" = true)
    (k_string_end : PySem.W.keepIn K (.ref f_string_end) = true)
    (a_is_inner : PySem.W.nsIn K mainGlobals "is_inner" = some (some (.ref f_is_inner)))
    (l_is_inner : K.lookup f_is_inner = some ⟨oc_is_inner, od_is_inner, .func (PySem.W.fnOf "is_inner" "is_inner" (defArgs sInner) (defBody sInner) (defScope sInner) .none kV_is_inner dc_is_inner pm_is_inner an_is_inner cd_is_inner ct_is_inner), sl_is_inner⟩)
    (c_is_inner : PySem.W.codeIn K cd_is_inner "is_inner" = true)
    (k_is_inner : PySem.W.keepIn K (.ref f_is_inner) = true)
    (a_m_refuse : PySem.W.findIn K (.ref C) "refuse" = some (some (.ref f_m_refuse)))
    (i_m_refuse : PySem.W.isFn K (.ref f_m_refuse) = true)
    (l_m_refuse : K.lookup f_m_refuse = some ⟨oc_m_refuse, od_m_refuse, .func (PySem.W.fnOf "refuse" "Scanner.refuse" (defArgs mRefuse) (defBody mRefuse) (defScope mRefuse) .none kV_m_refuse dc_m_refuse pm_m_refuse an_m_refuse cd_m_refuse ct_m_refuse), sl_m_refuse⟩)
    (c_m_refuse : PySem.W.codeIn K cd_m_refuse "Scanner.refuse" = true)
    (k_m_refuse : PySem.W.keepIn K (.ref f_m_refuse) = true)
    (a_B : PySem.W.findIn K (.ref CB) "__init__" = some (some (.ref fB)))
    (l_B : K.lookup fB = some ⟨oc_B, od_B, .func (PySem.W.fnOf "__init__" "BadText.__init__" (defArgs sBadInit) (defBody sBadInit) (defScope sBadInit) .none kV_B dc_B pm_B an_B cd_B ct_B), sl_B⟩)
    (c_B : PySem.W.codeIn K cd_B "BadText.__init__" = true)
    (k_B : PySem.W.keepIn K (.ref fB) = true)
    (a_m_sees : PySem.W.findIn K (.ref C) "sees" = some (some (.ref f_m_sees)))
    (i_m_sees : PySem.W.isFn K (.ref f_m_sees) = true)
    (l_m_sees : K.lookup f_m_sees = some ⟨oc_m_sees, od_m_sees, .func (PySem.W.fnOf "sees" "Scanner.sees" (defArgs mSees) (defBody mSees) (defScope mSees) .none kV_m_sees dc_m_sees pm_m_sees an_m_sees cd_m_sees ct_m_sees), sl_m_sees⟩)
    (c_m_sees : PySem.W.codeIn K cd_m_sees "Scanner.sees" = true)
    (k_m_sees : PySem.W.keepIn K (.ref f_m_sees) = true)
    (a_m_accepts : PySem.W.findIn K (.ref C) "accepts" = some (some (.ref f_m_accepts)))
    (i_m_accepts : PySem.W.isFn K (.ref f_m_accepts) = true)
    (l_m_accepts : K.lookup f_m_accepts = some ⟨oc_m_accepts, od_m_accepts, .func (PySem.W.fnOf "accepts" "Scanner.accepts" (defArgs mAccepts) (defBody mAccepts) (defScope mAccepts) .none kV_m_accepts dc_m_accepts pm_m_accepts an_m_accepts cd_m_accepts ct_m_accepts), sl_m_accepts⟩)
    (c_m_accepts : PySem.W.codeIn K cd_m_accepts "Scanner.accepts" = true)
    (k_m_accepts : PySem.W.keepIn K (.ref f_m_accepts) = true)
    (a_m_expect : PySem.W.findIn K (.ref C) "expect" = some (some (.ref f_m_expect)))
    (i_m_expect : PySem.W.isFn K (.ref f_m_expect) = true)
    (l_m_expect : K.lookup f_m_expect = some ⟨oc_m_expect, od_m_expect, .func (PySem.W.fnOf "expect" "Scanner.expect" (defArgs mExpect) (defBody mExpect) (defScope mExpect) .none kV_m_expect dc_m_expect pm_m_expect an_m_expect cd_m_expect ct_m_expect), sl_m_expect⟩)
    (c_m_expect : PySem.W.codeIn K cd_m_expect "Scanner.expect" = true)
    (k_m_expect : PySem.W.keepIn K (.ref f_m_expect) = true)
    (a_m_expect_end : PySem.W.findIn K (.ref C) "expect_end" = some (some (.ref f_m_expect_end)))
    (i_m_expect_end : PySem.W.isFn K (.ref f_m_expect_end) = true)
    (l_m_expect_end : K.lookup f_m_expect_end = some ⟨oc_m_expect_end, od_m_expect_end, .func (PySem.W.fnOf "expect_end" "Scanner.expect_end" (defArgs mEnd) (defBody mEnd) (defScope mEnd) .none kV_m_expect_end dc_m_expect_end pm_m_expect_end an_m_expect_end cd_m_expect_end ct_m_expect_end), sl_m_expect_end⟩)
    (c_m_expect_end : PySem.W.codeIn K cd_m_expect_end "Scanner.expect_end" = true)
    (k_m_expect_end : PySem.W.keepIn K (.ref f_m_expect_end) = true)
    (a_m_take_to : PySem.W.findIn K (.ref C) "take_to" = some (some (.ref f_m_take_to)))
    (i_m_take_to : PySem.W.isFn K (.ref f_m_take_to) = true)
    (l_m_take_to : K.lookup f_m_take_to = some ⟨oc_m_take_to, od_m_take_to, .func (PySem.W.fnOf "take_to" "Scanner.take_to" (defArgs mTo) (defBody mTo) (defScope mTo) .none kV_m_take_to dc_m_take_to pm_m_take_to an_m_take_to cd_m_take_to ct_m_take_to), sl_m_take_to⟩)
    (c_m_take_to : PySem.W.codeIn K cd_m_take_to "Scanner.take_to" = true)
    (k_m_take_to : PySem.W.keepIn K (.ref f_m_take_to) = true)
    (a_is_name : PySem.W.nsIn K mainGlobals "is_name" = some (some (.ref f_is_name)))
    (l_is_name : K.lookup f_is_name = some ⟨oc_is_name, od_is_name, .func (PySem.W.fnOf "is_name" "is_name" (defArgs sIsName) (defBody sIsName) (defScope sIsName) .none kV_is_name dc_is_name pm_is_name an_is_name cd_is_name ct_is_name), sl_is_name⟩)
    (c_is_name : PySem.W.codeIn K cd_is_name "is_name" = true)
    (k_is_name : PySem.W.keepIn K (.ref f_is_name) = true)
    (a_number_in : PySem.W.nsIn K mainGlobals "number_in" = some (some (.ref f_number_in)))
    (l_number_in : K.lookup f_number_in = some ⟨oc_number_in, od_number_in, .func (PySem.W.fnOf "number_in" "number_in" (defArgs sNumIn) (defBody sNumIn) (defScope sNumIn) .none kV_number_in dc_number_in pm_number_in an_number_in cd_number_in ct_number_in), sl_number_in⟩)
    (c_number_in : PySem.W.codeIn K cd_number_in "number_in" = true)
    (k_number_in : PySem.W.keepIn K (.ref f_number_in) = true)
    (a_m_take_word : PySem.W.findIn K (.ref C) "take_word" = some (some (.ref f_m_take_word)))
    (i_m_take_word : PySem.W.isFn K (.ref f_m_take_word) = true)
    (l_m_take_word : K.lookup f_m_take_word = some ⟨oc_m_take_word, od_m_take_word, .func (PySem.W.fnOf "take_word" "Scanner.take_word" (defArgs mWord) (defBody mWord) (defScope mWord) .none kV_m_take_word dc_m_take_word pm_m_take_word an_m_take_word cd_m_take_word ct_m_take_word), sl_m_take_word⟩)
    (c_m_take_word : PySem.W.codeIn K cd_m_take_word "Scanner.take_word" = true)
    (k_m_take_word : PySem.W.keepIn K (.ref f_m_take_word) = true)
    (a_m_take_name : PySem.W.findIn K (.ref C) "take_name" = some (some (.ref f_m_take_name)))
    (i_m_take_name : PySem.W.isFn K (.ref f_m_take_name) = true)
    (l_m_take_name : K.lookup f_m_take_name = some ⟨oc_m_take_name, od_m_take_name, .func (PySem.W.fnOf "take_name" "Scanner.take_name" (defArgs mName) (defBody mName) (defScope mName) .none kV_m_take_name dc_m_take_name pm_m_take_name an_m_take_name cd_m_take_name ct_m_take_name), sl_m_take_name⟩)
    (c_m_take_name : PySem.W.codeIn K cd_m_take_name "Scanner.take_name" = true)
    (k_m_take_name : PySem.W.keepIn K (.ref f_m_take_name) = true)
    (a_m_take_number : PySem.W.findIn K (.ref C) "take_number" = some (some (.ref f_m_take_number)))
    (i_m_take_number : PySem.W.isFn K (.ref f_m_take_number) = true)
    (l_m_take_number : K.lookup f_m_take_number = some ⟨oc_m_take_number, od_m_take_number, .func (PySem.W.fnOf "take_number" "Scanner.take_number" (defArgs mNumber) (defBody mNumber) (defScope mNumber) .none kV_m_take_number dc_m_take_number pm_m_take_number an_m_take_number cd_m_take_number ct_m_take_number), sl_m_take_number⟩)
    (c_m_take_number : PySem.W.codeIn K cd_m_take_number "Scanner.take_number" = true)
    (k_m_take_number : PySem.W.keepIn K (.ref f_m_take_number) = true)
    (a_m_take_serial : PySem.W.findIn K (.ref C) "take_serial" = some (some (.ref f_m_take_serial)))
    (i_m_take_serial : PySem.W.isFn K (.ref f_m_take_serial) = true)
    (l_m_take_serial : K.lookup f_m_take_serial = some ⟨oc_m_take_serial, od_m_take_serial, .func (PySem.W.fnOf "take_serial" "Scanner.take_serial" (defArgs mSerial) (defBody mSerial) (defScope mSerial) .none kV_m_take_serial dc_m_take_serial pm_m_take_serial an_m_take_serial cd_m_take_serial ct_m_take_serial), sl_m_take_serial⟩)
    (c_m_take_serial : PySem.W.codeIn K cd_m_take_serial "Scanner.take_serial" = true)
    (k_m_take_serial : PySem.W.keepIn K (.ref f_m_take_serial) = true)
    (a_m_take_literal : PySem.W.findIn K (.ref C) "take_literal" = some (some (.ref f_m_take_literal)))
    (i_m_take_literal : PySem.W.isFn K (.ref f_m_take_literal) = true)
    (l_m_take_literal : K.lookup f_m_take_literal = some ⟨oc_m_take_literal, od_m_take_literal, .func (PySem.W.fnOf "take_literal" "Scanner.take_literal" (defArgs mLiteral) (defBody mLiteral) (defScope mLiteral) .none kV_m_take_literal dc_m_take_literal pm_m_take_literal an_m_take_literal cd_m_take_literal ct_m_take_literal), sl_m_take_literal⟩)
    (c_m_take_literal : PySem.W.codeIn K cd_m_take_literal "Scanner.take_literal" = true)
    (k_m_take_literal : PySem.W.keepIn K (.ref f_m_take_literal) = true)
    (a_m_take_part : PySem.W.findIn K (.ref C) "take_part" = some (some (.ref f_m_take_part)))
    (i_m_take_part : PySem.W.isFn K (.ref f_m_take_part) = true)
    (l_m_take_part : K.lookup f_m_take_part = some ⟨oc_m_take_part, od_m_take_part, .func (PySem.W.fnOf "take_part" "Scanner.take_part" (defArgs mPart) (defBody mPart) (defScope mPart) .none kV_m_take_part dc_m_take_part pm_m_take_part an_m_take_part cd_m_take_part ct_m_take_part), sl_m_take_part⟩)
    (c_m_take_part : PySem.W.codeIn K cd_m_take_part "Scanner.take_part" = true)
    (k_m_take_part : PySem.W.keepIn K (.ref f_m_take_part) = true)
    (a_m_take_path : PySem.W.findIn K (.ref C) "take_path" = some (some (.ref f_m_take_path)))
    (i_m_take_path : PySem.W.isFn K (.ref f_m_take_path) = true)
    (l_m_take_path : K.lookup f_m_take_path = some ⟨oc_m_take_path, od_m_take_path, .func (PySem.W.fnOf "take_path" "Scanner.take_path" (defArgs mPath) (defBody mPath) (defScope mPath) .none kV_m_take_path dc_m_take_path pm_m_take_path an_m_take_path cd_m_take_path ct_m_take_path), sl_m_take_path⟩)
    (c_m_take_path : PySem.W.codeIn K cd_m_take_path "Scanner.take_path" = true)
    (k_m_take_path : PySem.W.keepIn K (.ref f_m_take_path) = true)
    (a_m_take_place : PySem.W.findIn K (.ref C) "take_place" = some (some (.ref f_m_take_place)))
    (i_m_take_place : PySem.W.isFn K (.ref f_m_take_place) = true)
    (l_m_take_place : K.lookup f_m_take_place = some ⟨oc_m_take_place, od_m_take_place, .func (PySem.W.fnOf "take_place" "Scanner.take_place" (defArgs mPlace) (defBody mPlace) (defScope mPlace) .none kV_m_take_place dc_m_take_place pm_m_take_place an_m_take_place cd_m_take_place ct_m_take_place), sl_m_take_place⟩)
    (c_m_take_place : PySem.W.codeIn K cd_m_take_place "Scanner.take_place" = true)
    (k_m_take_place : PySem.W.keepIn K (.ref f_m_take_place) = true)
    (a_m_take_spot : PySem.W.findIn K (.ref C) "take_spot" = some (some (.ref f_m_take_spot)))
    (i_m_take_spot : PySem.W.isFn K (.ref f_m_take_spot) = true)
    (l_m_take_spot : K.lookup f_m_take_spot = some ⟨oc_m_take_spot, od_m_take_spot, .func (PySem.W.fnOf "take_spot" "Scanner.take_spot" (defArgs mSpot) (defBody mSpot) (defScope mSpot) .none kV_m_take_spot dc_m_take_spot pm_m_take_spot an_m_take_spot cd_m_take_spot ct_m_take_spot), sl_m_take_spot⟩)
    (c_m_take_spot : PySem.W.codeIn K cd_m_take_spot "Scanner.take_spot" = true)
    (k_m_take_spot : PySem.W.keepIn K (.ref f_m_take_spot) = true)
    (a_m_take_record : PySem.W.findIn K (.ref C) "take_record" = some (some (.ref f_m_take_record)))
    (i_m_take_record : PySem.W.isFn K (.ref f_m_take_record) = true)
    (l_m_take_record : K.lookup f_m_take_record = some ⟨oc_m_take_record, od_m_take_record, .func (PySem.W.fnOf "take_record" "Scanner.take_record" (defArgs mRecord) (defBody mRecord) (defScope mRecord) .none kV_m_take_record dc_m_take_record pm_m_take_record an_m_take_record cd_m_take_record ct_m_take_record), sl_m_take_record⟩)
    (c_m_take_record : PySem.W.codeIn K cd_m_take_record "Scanner.take_record" = true)
    (k_m_take_record : PySem.W.keepIn K (.ref f_m_take_record) = true)
    (a_m_take_content : PySem.W.findIn K (.ref C) "take_content" = some (some (.ref f_m_take_content)))
    (i_m_take_content : PySem.W.isFn K (.ref f_m_take_content) = true)
    (l_m_take_content : K.lookup f_m_take_content = some ⟨oc_m_take_content, od_m_take_content, .func (PySem.W.fnOf "take_content" "Scanner.take_content" (defArgs mContent) (defBody mContent) (defScope mContent) .none kV_m_take_content dc_m_take_content pm_m_take_content an_m_take_content cd_m_take_content ct_m_take_content), sl_m_take_content⟩)
    (c_m_take_content : PySem.W.codeIn K cd_m_take_content "Scanner.take_content" = true)
    (k_m_take_content : PySem.W.keepIn K (.ref f_m_take_content) = true)
    (a_m_take_rows : PySem.W.findIn K (.ref C) "take_rows" = some (some (.ref f_m_take_rows)))
    (i_m_take_rows : PySem.W.isFn K (.ref f_m_take_rows) = true)
    (l_m_take_rows : K.lookup f_m_take_rows = some ⟨oc_m_take_rows, od_m_take_rows, .func (PySem.W.fnOf "take_rows" "Scanner.take_rows" (defArgs mRows) (defBody mRows) (defScope mRows) .none kV_m_take_rows dc_m_take_rows pm_m_take_rows an_m_take_rows cd_m_take_rows ct_m_take_rows), sl_m_take_rows⟩)
    (c_m_take_rows : PySem.W.codeIn K cd_m_take_rows "Scanner.take_rows" = true)
    (k_m_take_rows : PySem.W.keepIn K (.ref f_m_take_rows) = true)
    (a_take_step : PySem.W.nsIn K mainGlobals "take_step" = some (some (.ref f_take_step)))
    (l_take_step : K.lookup f_take_step = some ⟨oc_take_step, od_take_step, .func (PySem.W.fnOf "take_step" "take_step" (defArgs sTakeStep) (defBody sTakeStep) (defScope sTakeStep) .none kV_take_step dc_take_step pm_take_step an_take_step cd_take_step ct_take_step), sl_take_step⟩)
    (c_take_step : PySem.W.codeIn K cd_take_step "take_step" = true)
    (k_take_step : PySem.W.keepIn K (.ref f_take_step) = true)
    (a_take_edit : PySem.W.nsIn K mainGlobals "take_edit" = some (some (.ref f_take_edit)))
    (l_take_edit : K.lookup f_take_edit = some ⟨oc_take_edit, od_take_edit, .func (PySem.W.fnOf "take_edit" "take_edit" (defArgs sTakeE) (defBody sTakeE) (defScope sTakeE) .none kV_take_edit dc_take_edit pm_take_edit an_take_edit cd_take_edit ct_take_edit), sl_take_edit⟩)
    (c_take_edit : PySem.W.codeIn K cd_take_edit "take_edit" = true)
    (k_take_edit : PySem.W.keepIn K (.ref f_take_edit) = true)
    (a_read_edit : PySem.W.nsIn K mainGlobals "read_edit" = some (some (.ref f_read_edit)))
    (l_read_edit : K.lookup f_read_edit = some ⟨oc_read_edit, od_read_edit, .func (PySem.W.fnOf "read_edit" "read_edit" (defArgs sReadE) (defBody sReadE) (defScope sReadE) .none kV_read_edit dc_read_edit pm_read_edit an_read_edit cd_read_edit ct_read_edit), sl_read_edit⟩)
    (c_read_edit : PySem.W.codeIn K cd_read_edit "read_edit" = true)
    (k_read_edit : PySem.W.keepIn K (.ref f_read_edit) = true)
    (a_take_serials : PySem.W.nsIn K mainGlobals "take_serials" = some (some (.ref f_take_serials)))
    (l_take_serials : K.lookup f_take_serials = some ⟨oc_take_serials, od_take_serials, .func (PySem.W.fnOf "take_serials" "take_serials" (defArgs sTakeS) (defBody sTakeS) (defScope sTakeS) .none kV_take_serials dc_take_serials pm_take_serials an_take_serials cd_take_serials ct_take_serials), sl_take_serials⟩)
    (c_take_serials : PySem.W.codeIn K cd_take_serials "take_serials" = true)
    (k_take_serials : PySem.W.keepIn K (.ref f_take_serials) = true)
    (a_take_deed : PySem.W.nsIn K mainGlobals "take_deed" = some (some (.ref f_take_deed)))
    (l_take_deed : K.lookup f_take_deed = some ⟨oc_take_deed, od_take_deed, .func (PySem.W.fnOf "take_deed" "take_deed" (defArgs sTakeD) (defBody sTakeD) (defScope sTakeD) .none kV_take_deed dc_take_deed pm_take_deed an_take_deed cd_take_deed ct_take_deed), sl_take_deed⟩)
    (c_take_deed : PySem.W.codeIn K cd_take_deed "take_deed" = true)
    (k_take_deed : PySem.W.keepIn K (.ref f_take_deed) = true)
    (a_comes_ahead : PySem.W.nsIn K mainGlobals "comes_ahead" = some (some (.ref f_comes_ahead)))
    (l_comes_ahead : K.lookup f_comes_ahead = some ⟨oc_comes_ahead, od_comes_ahead, .func (PySem.W.fnOf "comes_ahead" "comes_ahead" (defArgs sAhead) (defBody sAhead) (defScope sAhead) .none kV_comes_ahead dc_comes_ahead pm_comes_ahead an_comes_ahead cd_comes_ahead ct_comes_ahead), sl_comes_ahead⟩)
    (c_comes_ahead : PySem.W.codeIn K cd_comes_ahead "comes_ahead" = true)
    (k_comes_ahead : PySem.W.keepIn K (.ref f_comes_ahead) = true)
    (a_take_plan : PySem.W.nsIn K mainGlobals "take_plan" = some (some (.ref f_take_plan)))
    (l_take_plan : K.lookup f_take_plan = some ⟨oc_take_plan, od_take_plan, .func (PySem.W.fnOf "take_plan" "take_plan" (defArgs sTakeP) (defBody sTakeP) (defScope sTakeP) .none kV_take_plan dc_take_plan pm_take_plan an_take_plan cd_take_plan ct_take_plan), sl_take_plan⟩)
    (c_take_plan : PySem.W.codeIn K cd_take_plan "take_plan" = true)
    (k_take_plan : PySem.W.keepIn K (.ref f_take_plan) = true)
    (a_read_plan : PySem.W.nsIn K mainGlobals "read_plan" = some (some (.ref f_read_plan)))
    (l_read_plan : K.lookup f_read_plan = some ⟨oc_read_plan, od_read_plan, .func (PySem.W.fnOf "read_plan" "read_plan" (defArgs sReadP) (defBody sReadP) (defScope sReadP) .none kV_read_plan dc_read_plan pm_read_plan an_read_plan cd_read_plan ct_read_plan), sl_read_plan⟩)
    (c_read_plan : PySem.W.codeIn K cd_read_plan "read_plan" = true)
    (k_read_plan : PySem.W.keepIn K (.ref f_read_plan) = true)
    (a_L_take : PySem.W.nsIn K mainGlobals "_law_take" = some (some (.ref f_L_take)))
    (l_L_take : K.lookup f_L_take = some ⟨oc_L_take, od_L_take, .func (PySem.W.fnOf "_law_take" "_law_take" (defArgs sTake) (defBody sTake) (defScope sTake) .none kV_L_take dc_L_take pm_L_take an_L_take cd_L_take ct_L_take), sl_L_take⟩)
    (c_L_take : PySem.W.codeIn K cd_L_take "_law_take" = true)
    (k_L_take : PySem.W.keepIn K (.ref f_L_take) = true)
    (a_L_of : PySem.W.nsIn K mainGlobals "_law_of" = some (some (.ref f_L_of)))
    (l_L_of : K.lookup f_L_of = some ⟨oc_L_of, od_L_of, .func (PySem.W.fnOf "_law_of" "_law_of" (defArgs sOf) (defBody sOf) (defScope sOf) .none kV_L_of dc_L_of pm_L_of an_L_of cd_L_of ct_L_of), sl_L_of⟩)
    (c_L_of : PySem.W.codeIn K cd_L_of "_law_of" = true)
    (k_L_of : PySem.W.keepIn K (.ref f_L_of) = true)
    (a_L_box : PySem.W.nsIn K mainGlobals "_law_box" = some (some (.ref f_L_box)))
    (l_L_box : K.lookup f_L_box = some ⟨oc_L_box, od_L_box, .func (PySem.W.fnOf "_law_box" "_law_box" (defArgs sBox) (defBody sBox) (defScope sBox) .none kV_L_box dc_L_box pm_L_box an_L_box cd_L_box ct_L_box), sl_L_box⟩)
    (c_L_box : PySem.W.codeIn K cd_L_box "_law_box" = true)
    (k_L_box : PySem.W.keepIn K (.ref f_L_box) = true)
    (a_L_name : PySem.W.nsIn K mainGlobals "_law_name" = some (some (.ref f_L_name)))
    (l_L_name : K.lookup f_L_name = some ⟨oc_L_name, od_L_name, .func (PySem.W.fnOf "_law_name" "_law_name" (defArgs sName) (defBody sName) (defScope sName) .none kV_L_name dc_L_name pm_L_name an_L_name cd_L_name ct_L_name), sl_L_name⟩)
    (c_L_name : PySem.W.codeIn K cd_L_name "_law_name" = true)
    (k_L_name : PySem.W.keepIn K (.ref f_L_name) = true)
    (a_L_literal : PySem.W.nsIn K mainGlobals "_law_literal" = some (some (.ref f_L_literal)))
    (l_L_literal : K.lookup f_L_literal = some ⟨oc_L_literal, od_L_literal, .func (PySem.W.fnOf "_law_literal" "_law_literal" (defArgs sLiteral) (defBody sLiteral) (defScope sLiteral) .none kV_L_literal dc_L_literal pm_L_literal an_L_literal cd_L_literal ct_L_literal), sl_L_literal⟩)
    (c_L_literal : PySem.W.codeIn K cd_L_literal "_law_literal" = true)
    (k_L_literal : PySem.W.keepIn K (.ref f_L_literal) = true)
    (a_L_record : PySem.W.nsIn K mainGlobals "_law_record" = some (some (.ref f_L_record)))
    (l_L_record : K.lookup f_L_record = some ⟨oc_L_record, od_L_record, .func (PySem.W.fnOf "_law_record" "_law_record" (defArgs sRec) (defBody sRec) (defScope sRec) .none kV_L_record dc_L_record pm_L_record an_L_record cd_L_record ct_L_record), sl_L_record⟩)
    (c_L_record : PySem.W.codeIn K cd_L_record "_law_record" = true)
    (k_L_record : PySem.W.keepIn K (.ref f_L_record) = true)
    (a_L_label_path : PySem.W.nsIn K mainGlobals "_law_label_path" = some (some (.ref f_L_label_path)))
    (l_L_label_path : K.lookup f_L_label_path = some ⟨oc_L_label_path, od_L_label_path, .func (PySem.W.fnOf "_law_label_path" "_law_label_path" (defArgs sLabP) (defBody sLabP) (defScope sLabP) .none kV_L_label_path dc_L_label_path pm_L_label_path an_L_label_path cd_L_label_path ct_L_label_path), sl_L_label_path⟩)
    (c_L_label_path : PySem.W.codeIn K cd_L_label_path "_law_label_path" = true)
    (k_L_label_path : PySem.W.keepIn K (.ref f_L_label_path) = true)
    (a_L_edit : PySem.W.nsIn K mainGlobals "_law_edit" = some (some (.ref f_L_edit)))
    (l_L_edit : K.lookup f_L_edit = some ⟨oc_L_edit, od_L_edit, .func (PySem.W.fnOf "_law_edit" "_law_edit" (defArgs sEdit) (defBody sEdit) (defScope sEdit) .none kV_L_edit dc_L_edit pm_L_edit an_L_edit cd_L_edit ct_L_edit), sl_L_edit⟩)
    (c_L_edit : PySem.W.codeIn K cd_L_edit "_law_edit" = true)
    (k_L_edit : PySem.W.keepIn K (.ref f_L_edit) = true)
    (a_L_deeds : PySem.W.nsIn K mainGlobals "_law_deeds" = some (some (.ref f_L_deeds)))
    (l_L_deeds : K.lookup f_L_deeds = some ⟨oc_L_deeds, od_L_deeds, .func (PySem.W.fnOf "_law_deeds" "_law_deeds" (defArgs sDeeds) (defBody sDeeds) (defScope sDeeds) .none kV_L_deeds dc_L_deeds pm_L_deeds an_L_deeds cd_L_deeds ct_L_deeds), sl_L_deeds⟩)
    (c_L_deeds : PySem.W.codeIn K cd_L_deeds "_law_deeds" = true)
    (k_L_deeds : PySem.W.keepIn K (.ref f_L_deeds) = true)
    (a_L_any : PySem.W.nsIn K mainGlobals "_law_any" = some (some (.ref f_L_any)))
    (l_L_any : K.lookup f_L_any = some ⟨oc_L_any, od_L_any, .func (PySem.W.fnOf "_law_any" "_law_any" (defArgs sAny) (defBody sAny) (defScope sAny) .none kV_L_any dc_L_any pm_L_any an_L_any cd_L_any ct_L_any), sl_L_any⟩)
    (c_L_any : PySem.W.codeIn K cd_L_any "_law_any" = true)
    (k_L_any : PySem.W.keepIn K (.ref f_L_any) = true)
    (a_L_bent_text : PySem.W.nsIn K mainGlobals "_law_bent_text" = some (some (.ref f_L_bent_text)))
    (l_L_bent_text : K.lookup f_L_bent_text = some ⟨oc_L_bent_text, od_L_bent_text, .func (PySem.W.fnOf "_law_bent_text" "_law_bent_text" (defArgs sBent) (defBody sBent) (defScope sBent) .none kV_L_bent_text dc_L_bent_text pm_L_bent_text an_L_bent_text cd_L_bent_text ct_L_bent_text), sl_L_bent_text⟩)
    (c_L_bent_text : PySem.W.codeIn K cd_L_bent_text "_law_bent_text" = true)
    (k_L_bent_text : PySem.W.keepIn K (.ref f_L_bent_text) = true)
    (a_L_lit_text : PySem.W.nsIn K mainGlobals "_law_lit_text" = some (some (.ref f_L_lit_text)))
    (l_L_lit_text : K.lookup f_L_lit_text = some ⟨oc_L_lit_text, od_L_lit_text, .func (PySem.W.fnOf "_law_lit_text" "_law_lit_text" (defArgs sLitT) (defBody sLitT) (defScope sLitT) .none kV_L_lit_text dc_L_lit_text pm_L_lit_text an_L_lit_text cd_L_lit_text ct_L_lit_text), sl_L_lit_text⟩)
    (c_L_lit_text : PySem.W.codeIn K cd_L_lit_text "_law_lit_text" = true)
    (k_L_lit_text : PySem.W.keepIn K (.ref f_L_lit_text) = true)
    (a_L_path_text : PySem.W.nsIn K mainGlobals "_law_path_text" = some (some (.ref f_L_path_text)))
    (l_L_path_text : K.lookup f_L_path_text = some ⟨oc_L_path_text, od_L_path_text, .func (PySem.W.fnOf "_law_path_text" "_law_path_text" (defArgs sPathT) (defBody sPathT) (defScope sPathT) .none kV_L_path_text dc_L_path_text pm_L_path_text an_L_path_text cd_L_path_text ct_L_path_text), sl_L_path_text⟩)
    (c_L_path_text : PySem.W.codeIn K cd_L_path_text "_law_path_text" = true)
    (k_L_path_text : PySem.W.keepIn K (.ref f_L_path_text) = true)
    (a_L_place_text : PySem.W.nsIn K mainGlobals "_law_place_text" = some (some (.ref f_L_place_text)))
    (l_L_place_text : K.lookup f_L_place_text = some ⟨oc_L_place_text, od_L_place_text, .func (PySem.W.fnOf "_law_place_text" "_law_place_text" (defArgs sPlaceT) (defBody sPlaceT) (defScope sPlaceT) .none kV_L_place_text dc_L_place_text pm_L_place_text an_L_place_text cd_L_place_text ct_L_place_text), sl_L_place_text⟩)
    (c_L_place_text : PySem.W.codeIn K cd_L_place_text "_law_place_text" = true)
    (k_L_place_text : PySem.W.keepIn K (.ref f_L_place_text) = true)
    (a_L_record_text : PySem.W.nsIn K mainGlobals "_law_record_text" = some (some (.ref f_L_record_text)))
    (l_L_record_text : K.lookup f_L_record_text = some ⟨oc_L_record_text, od_L_record_text, .func (PySem.W.fnOf "_law_record_text" "_law_record_text" (defArgs sRecT) (defBody sRecT) (defScope sRecT) .none kV_L_record_text dc_L_record_text pm_L_record_text an_L_record_text cd_L_record_text ct_L_record_text), sl_L_record_text⟩)
    (c_L_record_text : PySem.W.codeIn K cd_L_record_text "_law_record_text" = true)
    (k_L_record_text : PySem.W.keepIn K (.ref f_L_record_text) = true)
    (a_L_worth_text : PySem.W.nsIn K mainGlobals "_law_worth_text" = some (some (.ref f_L_worth_text)))
    (l_L_worth_text : K.lookup f_L_worth_text = some ⟨oc_L_worth_text, od_L_worth_text, .func (PySem.W.fnOf "_law_worth_text" "_law_worth_text" (defArgs sWorthT) (defBody sWorthT) (defScope sWorthT) .none kV_L_worth_text dc_L_worth_text pm_L_worth_text an_L_worth_text cd_L_worth_text ct_L_worth_text), sl_L_worth_text⟩)
    (c_L_worth_text : PySem.W.codeIn K cd_L_worth_text "_law_worth_text" = true)
    (k_L_worth_text : PySem.W.keepIn K (.ref f_L_worth_text) = true)
    (a_L_step_text : PySem.W.nsIn K mainGlobals "_law_step_text" = some (some (.ref f_L_step_text)))
    (l_L_step_text : K.lookup f_L_step_text = some ⟨oc_L_step_text, od_L_step_text, .func (PySem.W.fnOf "_law_step_text" "_law_step_text" (defArgs sStepT) (defBody sStepT) (defScope sStepT) .none kV_L_step_text dc_L_step_text pm_L_step_text an_L_step_text cd_L_step_text ct_L_step_text), sl_L_step_text⟩)
    (c_L_step_text : PySem.W.codeIn K cd_L_step_text "_law_step_text" = true)
    (k_L_step_text : PySem.W.keepIn K (.ref f_L_step_text) = true)
    (a_L_edit_text : PySem.W.nsIn K mainGlobals "_law_edit_text" = some (some (.ref f_L_edit_text)))
    (l_L_edit_text : K.lookup f_L_edit_text = some ⟨oc_L_edit_text, od_L_edit_text, .func (PySem.W.fnOf "_law_edit_text" "_law_edit_text" (defArgs sEditT) (defBody sEditT) (defScope sEditT) .none kV_L_edit_text dc_L_edit_text pm_L_edit_text an_L_edit_text cd_L_edit_text ct_L_edit_text), sl_L_edit_text⟩)
    (c_L_edit_text : PySem.W.codeIn K cd_L_edit_text "_law_edit_text" = true)
    (k_L_edit_text : PySem.W.keepIn K (.ref f_L_edit_text) = true)
    (a_L_deed_text : PySem.W.nsIn K mainGlobals "_law_deed_text" = some (some (.ref f_L_deed_text)))
    (l_L_deed_text : K.lookup f_L_deed_text = some ⟨oc_L_deed_text, od_L_deed_text, .func (PySem.W.fnOf "_law_deed_text" "_law_deed_text" (defArgs sDeedT) (defBody sDeedT) (defScope sDeedT) .none kV_L_deed_text dc_L_deed_text pm_L_deed_text an_L_deed_text cd_L_deed_text ct_L_deed_text), sl_L_deed_text⟩)
    (c_L_deed_text : PySem.W.codeIn K cd_L_deed_text "_law_deed_text" = true)
    (k_L_deed_text : PySem.W.keepIn K (.ref f_L_deed_text) = true)
    (a_L_plan_text : PySem.W.nsIn K mainGlobals "_law_plan_text" = some (some (.ref f_L_plan_text)))
    (l_L_plan_text : K.lookup f_L_plan_text = some ⟨oc_L_plan_text, od_L_plan_text, .func (PySem.W.fnOf "_law_plan_text" "_law_plan_text" (defArgs sPlanT) (defBody sPlanT) (defScope sPlanT) .none kV_L_plan_text dc_L_plan_text pm_L_plan_text an_L_plan_text cd_L_plan_text ct_L_plan_text), sl_L_plan_text⟩)
    (c_L_plan_text : PySem.W.codeIn K cd_L_plan_text "_law_plan_text" = true)
    (k_L_plan_text : PySem.W.keepIn K (.ref f_L_plan_text) = true)
    (a_L_is_literal : PySem.W.nsIn K mainGlobals "_law_is_literal" = some (some (.ref f_L_is_literal)))
    (l_L_is_literal : K.lookup f_L_is_literal = some ⟨oc_L_is_literal, od_L_is_literal, .func (PySem.W.fnOf "_law_is_literal" "_law_is_literal" (defArgs sIsLit) (defBody sIsLit) (defScope sIsLit) .none kV_L_is_literal dc_L_is_literal pm_L_is_literal an_L_is_literal cd_L_is_literal ct_L_is_literal), sl_L_is_literal⟩)
    (c_L_is_literal : PySem.W.codeIn K cd_L_is_literal "_law_is_literal" = true)
    (k_L_is_literal : PySem.W.keepIn K (.ref f_L_is_literal) = true)
    (a_L_edit_fine : PySem.W.nsIn K mainGlobals "_law_edit_fine" = some (some (.ref f_L_edit_fine)))
    (l_L_edit_fine : K.lookup f_L_edit_fine = some ⟨oc_L_edit_fine, od_L_edit_fine, .func (PySem.W.fnOf "_law_edit_fine" "_law_edit_fine" (defArgs sEFine) (defBody sEFine) (defScope sEFine) .none kV_L_edit_fine dc_L_edit_fine pm_L_edit_fine an_L_edit_fine cd_L_edit_fine ct_L_edit_fine), sl_L_edit_fine⟩)
    (c_L_edit_fine : PySem.W.codeIn K cd_L_edit_fine "_law_edit_fine" = true)
    (k_L_edit_fine : PySem.W.keepIn K (.ref f_L_edit_fine) = true)
    (a_L_plan_fine : PySem.W.nsIn K mainGlobals "_law_plan_fine" = some (some (.ref f_L_plan_fine)))
    (l_L_plan_fine : K.lookup f_L_plan_fine = some ⟨oc_L_plan_fine, od_L_plan_fine, .func (PySem.W.fnOf "_law_plan_fine" "_law_plan_fine" (defArgs sPFine) (defBody sPFine) (defScope sPFine) .none kV_L_plan_fine dc_L_plan_fine pm_L_plan_fine an_L_plan_fine cd_L_plan_fine ct_L_plan_fine), sl_L_plan_fine⟩)
    (c_L_plan_fine : PySem.W.codeIn K cd_L_plan_fine "_law_plan_fine" = true)
    (k_L_plan_fine : PySem.W.keepIn K (.ref f_L_plan_fine) = true)
    (a_L_asked : PySem.W.nsIn K mainGlobals "_law_asked" = some (some (.ref f_L_asked)))
    (l_L_asked : K.lookup f_L_asked = some ⟨oc_L_asked, od_L_asked, .func (PySem.W.fnOf "_law_asked" "_law_asked" (defArgs sAsked) (defBody sAsked) (defScope sAsked) .none kV_L_asked dc_L_asked pm_L_asked an_L_asked cd_L_asked ct_L_asked), sl_L_asked⟩)
    (c_L_asked : PySem.W.codeIn K cd_L_asked "_law_asked" = true)
    (k_L_asked : PySem.W.keepIn K (.ref f_L_asked) = true)
    (a_L_right : PySem.W.nsIn K mainGlobals "_law_right" = some (some (.ref f_L_right)))
    (l_L_right : K.lookup f_L_right = some ⟨oc_L_right, od_L_right, .func (PySem.W.fnOf "_law_right" "_law_right" (defArgs sRight) (defBody sRight) (defScope sRight) .none kV_L_right dc_L_right pm_L_right an_L_right cd_L_right ct_L_right), sl_L_right⟩)
    (c_L_right : PySem.W.codeIn K cd_L_right "_law_right" = true)
    (k_L_right : PySem.W.keepIn K (.ref f_L_right) = true)
    (a_law : PySem.W.nsIn K mainGlobals "law" = some (some (.ref f_law)))
    (l_law : K.lookup f_law = some ⟨oc_law, od_law, .func (PySem.W.fnOf "law" "law" (defArgs sLaw) (defBody sLaw) (defScope sLaw) .none kV_law dc_law pm_law an_law cd_law ct_law), sl_law⟩)
    (c_law : PySem.W.codeIn K cd_law "law" = true)
    (k_law : PySem.W.keepIn K (.ref f_law) = true)
    (y1 : PySem.W.nsIn K mainGlobals "LETTERS" = some (some (.str "abcdefghijklmnopqrstuvwxyz" t1)))
    (y2 : PySem.W.nsIn K mainGlobals "DIGITS" = some (some (.str "0123456789" t2)))
    (y3 : PySem.W.nsIn K mainGlobals "LONGEST_NAME" = some (some (.int 12 t3)))
    (y4 : PySem.W.nsIn K mainGlobals "MOST_DIGITS" = some (some (.int 1000 t4)))
    (y5 : PySem.W.nsIn K mainGlobals "DEEPEST" = some (some (.int 40 t5)))
    (y6 : PySem.W.nsIn K mainGlobals "AT_ONCE" = some (some (.int 64 t6)))
    (y7 : PySem.W.nsIn K mainGlobals "QUOTE" = some (some (.str "\"" t7)))
    (y8 : PySem.W.nsIn K mainGlobals "LONGEST_STRING" = some (some (.int 60 t8)))
    (y9 : PySem.W.nsIn K mainGlobals "UNIT" = some (some (.int 10000000000000000000000000000000000000000000000000000000000000000 t9)))
    (y10 : PySem.W.nsIn K mainGlobals "NONE" = some (some (.str "-" t10)))
    (y11 : PySem.W.nsIn K mainGlobals "PARTED" = some (some (.str "; " t11)))
    (yW : PySem.W.nsIn K mainGlobals "WORDS" = some (some (.ref pW)))
    (lW : K.lookup pW = some ⟨.type "tuple", odW, .seq #[.str "\x69mport" u0, .str "template" u1, .str "list" u2, .str "document" u3, .str "let" u4, .str "new" u5, .str "for" u6, .str "in" u7, .str "where" u8, .str "give" u9, .str "if" u10, .str "then" u11, .str "else" u12] eW, slW⟩)
    (z1 : PySem.W.nsIn K mainGlobals "len" = some none)
    (z2 : PySem.W.nsIn K mainGlobals "abs" = some none)
    (z3 : PySem.W.nsIn K mainGlobals "int" = some none)
    (z4 : PySem.W.nsIn K mainGlobals "isinstance" = some none)
    (z5 : PySem.W.nsIn K mainGlobals "str" = some none)
    (z6 : PySem.W.nsIn K mainGlobals "all" = some none)
    (z7 : PySem.W.nsIn K mainGlobals "range" = some none)
    (z8 : PySem.W.nsIn K mainGlobals "list" = some none)
    (z9 : PySem.W.nsIn K mainGlobals "repr" = some none)
    (z10 : PySem.W.nsIn K mainGlobals "max" = some none)
    (z11 : PySem.W.nsIn K mainGlobals "min" = some none)
    (z12 : PySem.W.nsIn K mainGlobals "tuple" = some none)
    (z13 : PySem.W.nsIn K mainGlobals "set" = some none)
    (z14 : PySem.W.nsIn K mainGlobals "sorted" = some none)
    (z15 : PySem.W.nsIn K mainGlobals "zip" = some none)
    (z16 : PySem.W.nsIn K mainGlobals "bool" = some none)
    (z17 : PySem.W.nsIn K mainGlobals "ValueError" = some none)
    (s1 : PySem.W.plainGet K C Str.empty = true)
    (s2 : PySem.W.hasDictIn K C = true)
    (s3 : PySem.W.plainOver K C = true)
    (s4 : PySem.W.findIn K (.ref C) "__setattr__" = some (some (.builtin "object.__setattr__")))
    (s5 : PySem.W.findIn K (.ref C) "whole" = some none)
    (s6 : PySem.W.findIn K (.ref C) "at" = some none)
    (s7 : PySem.W.makesIn K C = true)
    (s8 : PySem.W.keepIn K (.ref C) = true)
    (lCB : K.lookup CB = some oC)
    (x1 : ∃ nm q N bs bm sn sub ab col dd k0 k1 k2 k3 k5, oC = excClassObj nm q CB N bs bm true sn sub ab col dd k0 k1 k2 k3 k5 "ValueError.__new__" ∧ PySem.HandSPX.refsVE bm = true)
    (x2 : PySem.W.findIn K (.ref CB) "__setattr__" = some (some (.builtin "object.__setattr__")))
    (x3 : PySem.W.subIn K (.ref CB) (.type "BaseException") = some true)
    (x4 : PySem.W.typeIn K (.ref CB) = some (.type "type"))
    (x5 : PySem.W.keepIn K (.ref CB) = true)
    (x6 : PySem.W.typeIn K (.ref fB) = some (.type "function"))
    (x7 : PySem.W.findIn K (.ref CB) "value" = some none)
    (x8 : PySem.W.findIn K (.ref CB) "__getattribute__" = some (some (.builtin "BaseException.__getattribute__")))
    (x9 : PySem.W.findIn K (.ref CB) "__getattr__" = some none)
    (x10 : PySem.W.hasDictIn K CB = true)
    (x12 : PySem.W.findIn K (.ref CB) "__class__" = some (some (.builtin "object.__class__")))
    (x13 : PySem.W.specialIn K (.builtin "object.__class__") "__get__" = some (some (.builtin "getset_descriptor.__get__")))
    (x14 : PySem.W.takesIn K (.builtin "object.__class__") = some true)
    (x15 : PySem.W.mroIn K CB (.type "object") = some true)
    (lK : K.lookup CK = some ⟨oK, dK, .cls eK, wK⟩)
    (tK : PySem.W.typeIn K (.ref CK) = some (.type "type"))
    (uK : PySem.W.subIn K (.ref CB) (.ref CK) = some true)
    (lE : K.lookup CE = some ⟨oE, dE, .cls eE, wE⟩)
    (tE : PySem.W.typeIn K (.ref CE) = some (.type "type"))
    (uE : PySem.W.subIn K (.ref CB) (.ref CE) = some false)
    (lP : K.lookup CP = some ⟨oP, dP, .cls eP, wP⟩)
    (tP : PySem.W.typeIn K (.ref CP) = some (.type "type"))
    (uP : PySem.W.subIn K (.ref CB) (.ref CP) = some false)
    (lL : K.lookup CL = some ⟨oL, dL, .cls eL, wL⟩)
    (tL : PySem.W.typeIn K (.ref CL) = some (.type "type"))
    (uL : PySem.W.subIn K (.ref CB) (.ref CL) = some false)
    (uKB : PySem.W.subIn K (.ref CK) (.type "BaseException") = some true)
    (uV : PySem.W.subIn K (.ref CB) (.type "ValueError") = some true)
    (nE : (Value.ref CB == Value.ref CE) = false)
    (nP : (Value.ref CB == Value.ref CP) = false)
    (nL : (Value.ref CB == Value.ref CL) = false) :
    ∃ fd : FuncData, (∀ (s : Shared) (v : Value), BindsTo s fd ⟨[v], []⟩ [("_law_script", v)]) ∧
      ∀ base : Heap, K.In base → base.Ns mainGlobals mg → base.NoDigits → FnG l.prog w K mg base 132 fa fd ["_law_script"] (spLaw K) := by
  have e := hfa.symm.trans (PySem.W.mg_of X G a_law)
  cases e
  have non : ∀ {y : Str}, PySem.W.nsIn K mainGlobals y = some none → mg y = none := fun z => PySem.W.mg_none_of X G z
  have Z : Bare mg := ⟨non z1, non z2, non z3, non z4, non z5, non z6, non z7, non z8, non z9, non z10, non z11⟩
  have N : K2.Names mg := ⟨⟨_, PySem.W.mg_of X G y1⟩, ⟨_, PySem.W.mg_of X G y2⟩, ⟨_, PySem.W.mg_of X G y3⟩, ⟨_, PySem.W.mg_of X G y4⟩, ⟨_, PySem.W.mg_of X G y5⟩, ⟨_, PySem.W.mg_of X G y6⟩, ⟨_, PySem.W.mg_of X G y7⟩, ⟨_, PySem.W.mg_of X G y8⟩⟩
  have N2 : Names2 mg := ⟨⟨_, PySem.W.mg_of X G y10⟩, ⟨_, PySem.W.mg_of X G y11⟩, non z12, non z13⟩
  have hU : ∃ t, mg "UNIT" = some (.int (10 ^ 64) t) := ⟨t9, (PySem.W.mg_of X G y9).trans (by rw [show (10000000000000000000000000000000000000000000000000000000000000000 : Int) = 10 ^ 64 by decide +kernel])⟩
  have vals13 : Vals (shutS.map V.str) [.str "\x69mport" u0, .str "template" u1, .str "list" u2, .str "document" u3, .str "let" u4, .str "new" u5, .str "for" u6, .str "in" u7, .str "where" u8, .str "give" u9, .str "if" u10, .str "then" u11, .str "else" u12] := .cons ⟨_, rfl⟩ (.cons ⟨_, rfl⟩ (.cons ⟨_, rfl⟩ (.cons ⟨_, rfl⟩ (.cons ⟨_, rfl⟩ (.cons ⟨_, rfl⟩ (.cons ⟨_, rfl⟩ (.cons ⟨_, rfl⟩ (.cons ⟨_, rfl⟩ (.cons ⟨_, rfl⟩ (.cons ⟨_, rfl⟩ (.cons ⟨_, rfl⟩ (.cons ⟨_, rfl⟩ (.nil)))))))))))))
  have Co : Cons K mg := ⟨⟨_, PySem.W.mg_of X G y1⟩, ⟨_, PySem.W.mg_of X G y3⟩, pW, PySem.W.mg_of X G yW, fun H => .inr ⟨_, _, _, lW, rfl, rfl, by show 13 ≤ sizeLine; decide, vals13⟩⟩
  have F_sinit := fun_mk (st := mInit) l_sinit c_sinit k_sinit
  have b_sinit := F_sinit.binds (ps := ["self", "whole"]) fun _ _ _ _ _ _ us hl => match us, hl with | [_, _], _ => rfl
  have F_run_end := fun_mk (st := sRun) l_run_end c_run_end k_run_end
  have b_run_end := F_run_end.binds (ps := ["text", "at", "letters"]) fun _ _ _ _ _ _ us hl => match us, hl with | [_, _, _], _ => rfl
  have g_run_end := PySem.W.mg_of X G a_run_end
  have F_string_end := fun_mk (st := sStrEnd) l_string_end c_string_end k_string_end
  have b_string_end := F_string_end.binds (ps := ["text", "start"]) fun _ _ _ _ _ _ us hl => match us, hl with | [_, _], _ => rfl
  have g_string_end := PySem.W.mg_of X G a_string_end
  have F_is_inner := fun_mk (st := sInner) l_is_inner c_is_inner k_is_inner
  have b_is_inner := F_is_inner.binds (ps := ["sign"]) fun _ _ _ _ _ _ us hl => match us, hl with | [_], _ => rfl
  have g_is_inner := PySem.W.mg_of X G a_is_inner
  have F_m_refuse := fun_mk (st := mRefuse) l_m_refuse c_m_refuse k_m_refuse
  have b_m_refuse := F_m_refuse.binds (ps := ["self"]) fun _ _ _ _ _ _ us hl => match us, hl with | [_], _ => rfl
  have m_m_refuse : Meth K C "refuse" f_m_refuse := ⟨a_m_refuse, i_m_refuse, k_m_refuse⟩
  have F_B := fun_mk (st := sBadInit) l_B c_B k_B
  have b_B := F_B.binds (ps := ["self", "value"]) fun _ _ _ _ _ _ us hl => match us, hl with | [_, _], _ => rfl
  have F_m_sees := fun_mk (st := mSees) l_m_sees c_m_sees k_m_sees
  have b_m_sees := F_m_sees.binds (ps := ["self", "sign"]) fun _ _ _ _ _ _ us hl => match us, hl with | [_, _], _ => rfl
  have m_m_sees : Meth K C "sees" f_m_sees := ⟨a_m_sees, i_m_sees, k_m_sees⟩
  have F_m_accepts := fun_mk (st := mAccepts) l_m_accepts c_m_accepts k_m_accepts
  have b_m_accepts := F_m_accepts.binds (ps := ["self", "sign"]) fun _ _ _ _ _ _ us hl => match us, hl with | [_, _], _ => rfl
  have m_m_accepts : Meth K C "accepts" f_m_accepts := ⟨a_m_accepts, i_m_accepts, k_m_accepts⟩
  have F_m_expect := fun_mk (st := mExpect) l_m_expect c_m_expect k_m_expect
  have b_m_expect := F_m_expect.binds (ps := ["self", "sign"]) fun _ _ _ _ _ _ us hl => match us, hl with | [_, _], _ => rfl
  have m_m_expect : Meth K C "expect" f_m_expect := ⟨a_m_expect, i_m_expect, k_m_expect⟩
  have F_m_expect_end := fun_mk (st := mEnd) l_m_expect_end c_m_expect_end k_m_expect_end
  have b_m_expect_end := F_m_expect_end.binds (ps := ["self"]) fun _ _ _ _ _ _ us hl => match us, hl with | [_], _ => rfl
  have m_m_expect_end : Meth K C "expect_end" f_m_expect_end := ⟨a_m_expect_end, i_m_expect_end, k_m_expect_end⟩
  have F_m_take_to := fun_mk (st := mTo) l_m_take_to c_m_take_to k_m_take_to
  have b_m_take_to := F_m_take_to.binds (ps := ["self", "end"]) fun _ _ _ _ _ _ us hl => match us, hl with | [_, _], _ => rfl
  have m_m_take_to : Meth K C "take_to" f_m_take_to := ⟨a_m_take_to, i_m_take_to, k_m_take_to⟩
  have F_is_name := fun_mk (st := sIsName) l_is_name c_is_name k_is_name
  have b_is_name := F_is_name.binds (ps := ["value"]) fun _ _ _ _ _ _ us hl => match us, hl with | [_], _ => rfl
  have g_is_name := PySem.W.mg_of X G a_is_name
  have F_number_in := fun_mk (st := sNumIn) l_number_in c_number_in k_number_in
  have b_number_in := F_number_in.binds (ps := ["digits"]) fun _ _ _ _ _ _ us hl => match us, hl with | [_], _ => rfl
  have g_number_in := PySem.W.mg_of X G a_number_in
  have F_m_take_word := fun_mk (st := mWord) l_m_take_word c_m_take_word k_m_take_word
  have b_m_take_word := F_m_take_word.binds (ps := ["self"]) fun _ _ _ _ _ _ us hl => match us, hl with | [_], _ => rfl
  have m_m_take_word : Meth K C "take_word" f_m_take_word := ⟨a_m_take_word, i_m_take_word, k_m_take_word⟩
  have F_m_take_name := fun_mk (st := mName) l_m_take_name c_m_take_name k_m_take_name
  have b_m_take_name := F_m_take_name.binds (ps := ["self"]) fun _ _ _ _ _ _ us hl => match us, hl with | [_], _ => rfl
  have m_m_take_name : Meth K C "take_name" f_m_take_name := ⟨a_m_take_name, i_m_take_name, k_m_take_name⟩
  have F_m_take_number := fun_mk (st := mNumber) l_m_take_number c_m_take_number k_m_take_number
  have b_m_take_number := F_m_take_number.binds (ps := ["self"]) fun _ _ _ _ _ _ us hl => match us, hl with | [_], _ => rfl
  have m_m_take_number : Meth K C "take_number" f_m_take_number := ⟨a_m_take_number, i_m_take_number, k_m_take_number⟩
  have F_m_take_serial := fun_mk (st := mSerial) l_m_take_serial c_m_take_serial k_m_take_serial
  have b_m_take_serial := F_m_take_serial.binds (ps := ["self"]) fun _ _ _ _ _ _ us hl => match us, hl with | [_], _ => rfl
  have m_m_take_serial : Meth K C "take_serial" f_m_take_serial := ⟨a_m_take_serial, i_m_take_serial, k_m_take_serial⟩
  have F_m_take_literal := fun_mk (st := mLiteral) l_m_take_literal c_m_take_literal k_m_take_literal
  have b_m_take_literal := F_m_take_literal.binds (ps := ["self"]) fun _ _ _ _ _ _ us hl => match us, hl with | [_], _ => rfl
  have m_m_take_literal : Meth K C "take_literal" f_m_take_literal := ⟨a_m_take_literal, i_m_take_literal, k_m_take_literal⟩
  have F_m_take_part := fun_mk (st := mPart) l_m_take_part c_m_take_part k_m_take_part
  have b_m_take_part := F_m_take_part.binds (ps := ["self", "with_stars"]) fun _ _ _ _ _ _ us hl => match us, hl with | [_, _], _ => rfl
  have m_m_take_part : Meth K C "take_part" f_m_take_part := ⟨a_m_take_part, i_m_take_part, k_m_take_part⟩
  have F_m_take_path := fun_mk (st := mPath) l_m_take_path c_m_take_path k_m_take_path
  have b_m_take_path := F_m_take_path.binds (ps := ["self", "with_stars"]) fun _ _ _ _ _ _ us hl => match us, hl with | [_, _], _ => rfl
  have m_m_take_path : Meth K C "take_path" f_m_take_path := ⟨a_m_take_path, i_m_take_path, k_m_take_path⟩
  have F_m_take_place := fun_mk (st := mPlace) l_m_take_place c_m_take_place k_m_take_place
  have b_m_take_place := F_m_take_place.binds (ps := ["self"]) fun _ _ _ _ _ _ us hl => match us, hl with | [_], _ => rfl
  have m_m_take_place : Meth K C "take_place" f_m_take_place := ⟨a_m_take_place, i_m_take_place, k_m_take_place⟩
  have F_m_take_spot := fun_mk (st := mSpot) l_m_take_spot c_m_take_spot k_m_take_spot
  have b_m_take_spot := F_m_take_spot.binds (ps := ["self"]) fun _ _ _ _ _ _ us hl => match us, hl with | [_], _ => rfl
  have m_m_take_spot : Meth K C "take_spot" f_m_take_spot := ⟨a_m_take_spot, i_m_take_spot, k_m_take_spot⟩
  have F_m_take_record := fun_mk (st := mRecord) l_m_take_record c_m_take_record k_m_take_record
  have b_m_take_record := F_m_take_record.binds (ps := ["self", "depth"]) fun _ _ _ _ _ _ us hl => match us, hl with | [_, _], _ => rfl
  have m_m_take_record : Meth K C "take_record" f_m_take_record := ⟨a_m_take_record, i_m_take_record, k_m_take_record⟩
  have F_m_take_content := fun_mk (st := mContent) l_m_take_content c_m_take_content k_m_take_content
  have b_m_take_content := F_m_take_content.binds (ps := ["self", "depth"]) fun _ _ _ _ _ _ us hl => match us, hl with | [_, _], _ => rfl
  have m_m_take_content : Meth K C "take_content" f_m_take_content := ⟨a_m_take_content, i_m_take_content, k_m_take_content⟩
  have F_m_take_rows := fun_mk (st := mRows) l_m_take_rows c_m_take_rows k_m_take_rows
  have b_m_take_rows := F_m_take_rows.binds (ps := ["self", "depth"]) fun _ _ _ _ _ _ us hl => match us, hl with | [_, _], _ => rfl
  have m_m_take_rows : Meth K C "take_rows" f_m_take_rows := ⟨a_m_take_rows, i_m_take_rows, k_m_take_rows⟩
  have F_take_step := fun_mk (st := sTakeStep) l_take_step c_take_step k_take_step
  have b_take_step := F_take_step.binds (ps := ["scanner"]) fun _ _ _ _ _ _ us hl => match us, hl with | [_], _ => rfl
  have g_take_step := PySem.W.mg_of X G a_take_step
  have F_take_edit := fun_mk (st := sTakeE) l_take_edit c_take_edit k_take_edit
  have b_take_edit := F_take_edit.binds (ps := ["scanner"]) fun _ _ _ _ _ _ us hl => match us, hl with | [_], _ => rfl
  have g_take_edit := PySem.W.mg_of X G a_take_edit
  have F_read_edit := fun_mk (st := sReadE) l_read_edit c_read_edit k_read_edit
  have b_read_edit := F_read_edit.binds (ps := ["text"]) fun _ _ _ _ _ _ us hl => match us, hl with | [_], _ => rfl
  have g_read_edit := PySem.W.mg_of X G a_read_edit
  have F_take_serials := fun_mk (st := sTakeS) l_take_serials c_take_serials k_take_serials
  have b_take_serials := F_take_serials.binds (ps := ["scanner"]) fun _ _ _ _ _ _ us hl => match us, hl with | [_], _ => rfl
  have g_take_serials := PySem.W.mg_of X G a_take_serials
  have F_take_deed := fun_mk (st := sTakeD) l_take_deed c_take_deed k_take_deed
  have b_take_deed := F_take_deed.binds (ps := ["scanner"]) fun _ _ _ _ _ _ us hl => match us, hl with | [_], _ => rfl
  have g_take_deed := PySem.W.mg_of X G a_take_deed
  have F_comes_ahead := fun_mk (st := sAhead) l_comes_ahead c_comes_ahead k_comes_ahead
  have b_comes_ahead := F_comes_ahead.binds (ps := ["one", "other"]) fun _ _ _ _ _ _ us hl => match us, hl with | [_, _], _ => rfl
  have g_comes_ahead := PySem.W.mg_of X G a_comes_ahead
  have F_take_plan := fun_mk (st := sTakeP) l_take_plan c_take_plan k_take_plan
  have b_take_plan := F_take_plan.binds (ps := ["scanner"]) fun _ _ _ _ _ _ us hl => match us, hl with | [_], _ => rfl
  have g_take_plan := PySem.W.mg_of X G a_take_plan
  have F_read_plan := fun_mk (st := sReadP) l_read_plan c_read_plan k_read_plan
  have b_read_plan := F_read_plan.binds (ps := ["text"]) fun _ _ _ _ _ _ us hl => match us, hl with | [_], _ => rfl
  have g_read_plan := PySem.W.mg_of X G a_read_plan
  have F_L_take := fun_mk (st := sTake) l_L_take c_L_take k_L_take
  have b_L_take := F_L_take.binds (ps := ["_law_box_here", "_law_many"]) fun _ _ _ _ _ _ us hl => match us, hl with | [_, _], _ => rfl
  have g_L_take := PySem.W.mg_of X G a_L_take
  have F_L_of := fun_mk (st := sOf) l_L_of c_L_of k_L_of
  have b_L_of := F_L_of.binds (ps := ["_law_box_here", "_law_some"]) fun _ _ _ _ _ _ us hl => match us, hl with | [_, _], _ => rfl
  have g_L_of := PySem.W.mg_of X G a_L_of
  have F_L_box := fun_mk (st := sBox) l_L_box c_L_box k_L_box
  have b_L_box := F_L_box.binds (ps := ["_law_script", "_law_k"]) fun _ _ _ _ _ _ us hl => match us, hl with | [_, _], _ => rfl
  have g_L_box := PySem.W.mg_of X G a_L_box
  have F_L_name := fun_mk (st := sName) l_L_name c_L_name k_L_name
  have b_L_name := F_L_name.binds (ps := ["_law_box_here"]) fun _ _ _ _ _ _ us hl => match us, hl with | [_], _ => rfl
  have g_L_name := PySem.W.mg_of X G a_L_name
  have F_L_literal := fun_mk (st := sLiteral) l_L_literal c_L_literal k_L_literal
  have b_L_literal := F_L_literal.binds (ps := ["_law_box_here"]) fun _ _ _ _ _ _ us hl => match us, hl with | [_], _ => rfl
  have g_L_literal := PySem.W.mg_of X G a_L_literal
  have F_L_record := fun_mk (st := sRec) l_L_record c_L_record k_L_record
  have b_L_record := F_L_record.binds (ps := ["_law_box_here", "_law_deep"]) fun _ _ _ _ _ _ us hl => match us, hl with | [_, _], _ => rfl
  have g_L_record := PySem.W.mg_of X G a_L_record
  have F_L_label_path := fun_mk (st := sLabP) l_L_label_path c_L_label_path k_L_label_path
  have b_L_label_path := F_L_label_path.binds (ps := ["_law_box_here", "_law_most"]) fun _ _ _ _ _ _ us hl => match us, hl with | [_, _], _ => rfl
  have g_L_label_path := PySem.W.mg_of X G a_L_label_path
  have F_L_edit := fun_mk (st := sEdit) l_L_edit c_L_edit k_L_edit
  have b_L_edit := F_L_edit.binds (ps := ["_law_box_here"]) fun _ _ _ _ _ _ us hl => match us, hl with | [_], _ => rfl
  have g_L_edit := PySem.W.mg_of X G a_L_edit
  have F_L_deeds := fun_mk (st := sDeeds) l_L_deeds c_L_deeds k_L_deeds
  have b_L_deeds := F_L_deeds.binds (ps := ["_law_box_here"]) fun _ _ _ _ _ _ us hl => match us, hl with | [_], _ => rfl
  have g_L_deeds := PySem.W.mg_of X G a_L_deeds
  have F_L_any := fun_mk (st := sAny) l_L_any c_L_any k_L_any
  have b_L_any := F_L_any.binds (ps := ["_law_box_here", "_law_deep"]) fun _ _ _ _ _ _ us hl => match us, hl with | [_, _], _ => rfl
  have g_L_any := PySem.W.mg_of X G a_L_any
  have F_L_bent_text := fun_mk (st := sBent) l_L_bent_text c_L_bent_text k_L_bent_text
  have b_L_bent_text := F_L_bent_text.binds (ps := ["_law_box_here", "_law_page", "_law_other"]) fun _ _ _ _ _ _ us hl => match us, hl with | [_, _, _], _ => rfl
  have g_L_bent_text := PySem.W.mg_of X G a_L_bent_text
  have F_L_lit_text := fun_mk (st := sLitT) l_L_lit_text c_L_lit_text k_L_lit_text
  have b_L_lit_text := F_L_lit_text.binds (ps := ["_law_value"]) fun _ _ _ _ _ _ us hl => match us, hl with | [_], _ => rfl
  have g_L_lit_text := PySem.W.mg_of X G a_L_lit_text
  have F_L_path_text := fun_mk (st := sPathT) l_L_path_text c_L_path_text k_L_path_text
  have b_L_path_text := F_L_path_text.binds (ps := ["_law_path"]) fun _ _ _ _ _ _ us hl => match us, hl with | [_], _ => rfl
  have g_L_path_text := PySem.W.mg_of X G a_L_path_text
  have F_L_place_text := fun_mk (st := sPlaceT) l_L_place_text c_L_place_text k_L_place_text
  have b_L_place_text := F_L_place_text.binds (ps := ["_law_place"]) fun _ _ _ _ _ _ us hl => match us, hl with | [_], _ => rfl
  have g_L_place_text := PySem.W.mg_of X G a_L_place_text
  have F_L_record_text := fun_mk (st := sRecT) l_L_record_text c_L_record_text k_L_record_text
  have b_L_record_text := F_L_record_text.binds (ps := ["_law_record_here", "_law_has_serials"]) fun _ _ _ _ _ _ us hl => match us, hl with | [_, _], _ => rfl
  have g_L_record_text := PySem.W.mg_of X G a_L_record_text
  have F_L_worth_text := fun_mk (st := sWorthT) l_L_worth_text c_L_worth_text k_L_worth_text
  have b_L_worth_text := F_L_worth_text.binds (ps := ["_law_value", "_law_has_serials"]) fun _ _ _ _ _ _ us hl => match us, hl with | [_, _], _ => rfl
  have g_L_worth_text := PySem.W.mg_of X G a_L_worth_text
  have F_L_step_text := fun_mk (st := sStepT) l_L_step_text c_L_step_text k_L_step_text
  have b_L_step_text := F_L_step_text.binds (ps := ["_law_step"]) fun _ _ _ _ _ _ us hl => match us, hl with | [_], _ => rfl
  have g_L_step_text := PySem.W.mg_of X G a_L_step_text
  have F_L_edit_text := fun_mk (st := sEditT) l_L_edit_text c_L_edit_text k_L_edit_text
  have b_L_edit_text := F_L_edit_text.binds (ps := ["_law_made_of"]) fun _ _ _ _ _ _ us hl => match us, hl with | [_], _ => rfl
  have g_L_edit_text := PySem.W.mg_of X G a_L_edit_text
  have F_L_deed_text := fun_mk (st := sDeedT) l_L_deed_text c_L_deed_text k_L_deed_text
  have b_L_deed_text := F_L_deed_text.binds (ps := ["_law_deed"]) fun _ _ _ _ _ _ us hl => match us, hl with | [_], _ => rfl
  have g_L_deed_text := PySem.W.mg_of X G a_L_deed_text
  have F_L_plan_text := fun_mk (st := sPlanT) l_L_plan_text c_L_plan_text k_L_plan_text
  have b_L_plan_text := F_L_plan_text.binds (ps := ["_law_made_of"]) fun _ _ _ _ _ _ us hl => match us, hl with | [_], _ => rfl
  have g_L_plan_text := PySem.W.mg_of X G a_L_plan_text
  have F_L_is_literal := fun_mk (st := sIsLit) l_L_is_literal c_L_is_literal k_L_is_literal
  have b_L_is_literal := F_L_is_literal.binds (ps := ["_law_value"]) fun _ _ _ _ _ _ us hl => match us, hl with | [_], _ => rfl
  have g_L_is_literal := PySem.W.mg_of X G a_L_is_literal
  have F_L_edit_fine := fun_mk (st := sEFine) l_L_edit_fine c_L_edit_fine k_L_edit_fine
  have b_L_edit_fine := F_L_edit_fine.binds (ps := ["_law_found"]) fun _ _ _ _ _ _ us hl => match us, hl with | [_], _ => rfl
  have g_L_edit_fine := PySem.W.mg_of X G a_L_edit_fine
  have F_L_plan_fine := fun_mk (st := sPFine) l_L_plan_fine c_L_plan_fine k_L_plan_fine
  have b_L_plan_fine := F_L_plan_fine.binds (ps := ["_law_found"]) fun _ _ _ _ _ _ us hl => match us, hl with | [_], _ => rfl
  have g_L_plan_fine := PySem.W.mg_of X G a_L_plan_fine
  have F_L_asked := fun_mk (st := sAsked) l_L_asked c_L_asked k_L_asked
  have b_L_asked := F_L_asked.binds (ps := ["_law_ask", "_law_value"]) fun _ _ _ _ _ _ us hl => match us, hl with | [_, _], _ => rfl
  have g_L_asked := PySem.W.mg_of X G a_L_asked
  have F_L_right := fun_mk (st := sRight) l_L_right c_L_right k_L_right
  have b_L_right := F_L_right.binds (ps := ["_law_box_here"]) fun _ _ _ _ _ _ us hl => match us, hl with | [_], _ => rfl
  have g_L_right := PySem.W.mg_of X G a_L_right
  have F_law := fun_mk (st := sLaw) l_law c_law k_law
  have gC := PySem.W.mg_of X G yC
  have gB := PySem.W.mg_of X G yB
  have xc : ∃ nm q N bs bm sn sub ab col dd k0 k1 k2 k3 k5, K.lookup CB = some (excClassObj nm q CB N bs bm true sn sub ab col dd k0 k1 k2 k3 k5 "ValueError.__new__") ∧ PySem.HandSPX.refsVE bm = true := by
    obtain ⟨nm, q, N, bs, bm, sn, sub, ab, col, dd, k0, k1, k2, k3, k5, e, r⟩ := x1
    exact ⟨nm, q, N, bs, bm, sn, sub, ab, col, dd, k0, k1, k2, k3, k5, by rw [lCB, e], r⟩
  have x11 : (PySem.W.clsIn K CB).isSome = true := by
    obtain ⟨nm, q, N, bs, bm, sn, sub, ab, col, dd, k0, k1, k2, k3, k5, e, r⟩ := x1
    unfold PySem.W.clsIn
    rw [lCB, e]
    rfl
  have kit : ∀ {D : Addr} {o : Value} {d : Option Addr} {cd : ClassData} {s : Array (Option Value)} {b : Bool}, K.lookup D = some ⟨o, d, .cls cd, s⟩ → PySem.W.typeIn K (.ref D) = some (.type "type") →
      PySem.W.subIn K (.ref CB) (.ref D) = some b → PySem.W.kitCls K (.ref CB) (.ref D) = some b := by
    intro D o d cd s b hl ht hs
    have hc : PySem.W.clsIn K D = some cd := by
      unfold PySem.W.clsIn
      rw [hl]
    show (if ((PySem.W.clsIn K D).isSome && PySem.W.typeIn K (.ref D) == some (.type "type")) = true then _ else none) = _
    rw [hc, ht]
    exact (if_pos rfl).trans hs
  have x17 : PySem.W.kitOne K (.ref CB) (.ref CB) = some true := if_pos (beq_self_eq_true _)
  have off : ∀ {D : Addr}, (Value.ref CB == Value.ref D) = false → PySem.W.kitCls K (.ref CB) (.ref D) = some false → PySem.W.kitOne K (.ref CB) (.ref D) = some false := by
    intro D n h
    unfold PySem.W.kitOne
    rw [n]
    exact h
  have x18 := off nE (kit lE tE uE)
  have x19 := off nP (kit lP tP uP)
  have x20 := off nL (kit lL tL uL)
  have x21 : PySem.W.kitOne K (.ref CB) (.type "ValueError") = some true := uV
  have x16 : PySem.W.exmOne K (.ref CB) (.ref CK) = some true := by
    unfold PySem.W.exmOne
    rw [uKB]
    exact kit lK tK uK
  have T : Txt K mg C CB fB := ⟨⟨s1, s2, s3, s4⟩, s5, s6, gC, gB, ⟨xc, x2, x3, x4, x5⟩, a_B, x6, x7⟩
  have M : Mk K C f_sinit := ⟨s7, a_sinit, i_sinit, s8⟩
  have R : Errs K mg CB CK CE CP CL := ⟨PySem.W.mg_of X G yK, gB, PySem.W.mg_of X G yE, PySem.W.mg_of X G yP, PySem.W.mg_of X G yL, x16, ⟨x8, x9, x3, x10⟩, x7, ⟨x11, x8, x9, x3, x12, x13, x14, x15⟩, x17, x18, x19, x20, x21, non z17⟩
  have n_tuple := non z12
  have n_set := non z13
  have n_sorted := non z14
  have n_zip := non z15
  have n_bool := non z16
  refine ⟨(PySem.W.fnOf "law" "law" (defArgs sLaw) (defBody sLaw) (defScope sLaw) .none kV_law dc_law pm_law an_law cd_law ct_law), fun s v => .of_eq rfl, fun base _ _ hD => ?_⟩
  obtain ⟨G1, G2⟩ := prog_all (P := l.prog) (w := w) (base := base) T Z N Co hU n_tuple N2 M n_zip F_sinit F_run_end F_string_end F_is_inner b_is_inner g_is_inner F_m_refuse F_B b_B F_m_sees F_m_accepts b_m_sees m_m_sees F_m_expect b_m_accepts m_m_accepts b_m_refuse m_m_refuse F_m_expect_end F_m_take_to F_is_name F_number_in F_m_take_word b_m_take_to m_m_take_to k_run_end b_run_end g_run_end F_m_take_name b_m_take_word m_m_take_word k_is_name b_is_name g_is_name F_m_take_number k_number_in b_number_in g_number_in F_m_take_serial b_m_expect m_m_expect b_m_take_number m_m_take_number F_m_take_literal k_string_end b_string_end g_string_end F_m_take_part b_m_take_serial m_m_take_serial b_m_take_name m_m_take_name F_m_take_path b_m_take_part m_m_take_part F_m_take_place b_m_take_path m_m_take_path F_m_take_spot F_m_take_record b_m_take_record m_m_take_record b_m_take_literal m_m_take_literal F_m_take_content b_m_take_content m_m_take_content F_m_take_rows b_m_take_rows m_m_take_rows F_take_step b_m_take_place m_m_take_place F_take_edit k_take_step b_take_step g_take_step F_read_edit b_sinit k_take_edit b_take_edit g_take_edit b_m_expect_end m_m_expect_end F_take_serials F_take_deed b_m_take_spot m_m_take_spot k_take_serials b_take_serials g_take_serials F_comes_ahead k_comes_ahead b_comes_ahead g_comes_ahead F_take_plan k_take_deed b_take_deed g_take_deed F_read_plan k_take_plan b_take_plan g_take_plan
  refine law_all (P := l.prog) (w := w) (base := base) Z n_tuple n_sorted hD n_bool n_set R ?A F_L_take F_L_of b_L_take g_L_take F_L_box F_L_name k_L_of b_L_of g_L_of F_L_literal k_L_take F_L_record k_L_literal b_L_literal g_L_literal k_L_name b_L_name g_L_name k_L_record b_L_record g_L_record F_L_label_path F_L_edit k_L_label_path b_L_label_path g_L_label_path F_L_deeds F_L_any k_L_any b_L_any g_L_any F_L_bent_text F_L_lit_text F_L_path_text F_L_place_text k_L_path_text b_L_path_text g_L_path_text F_L_record_text k_L_lit_text b_L_lit_text g_L_lit_text k_L_record_text b_L_record_text g_L_record_text F_L_worth_text k_L_worth_text b_L_worth_text g_L_worth_text F_L_step_text k_L_place_text b_L_place_text g_L_place_text F_L_edit_text k_L_step_text b_L_step_text g_L_step_text F_L_deed_text F_L_plan_text k_L_deed_text b_L_deed_text g_L_deed_text F_L_is_literal F_L_edit_fine k_L_is_literal b_L_is_literal g_L_is_literal F_L_plan_fine F_L_asked F_L_right k_L_edit b_L_edit g_L_edit k_L_deeds b_L_deeds g_L_deeds k_L_bent_text b_L_bent_text g_L_bent_text k_L_asked b_L_asked g_L_asked g_read_edit g_read_plan k_read_edit k_read_plan k_L_edit_text b_L_edit_text g_L_edit_text k_L_plan_text b_L_plan_text g_L_plan_text k_L_edit_fine b_L_edit_fine g_L_edit_fine k_L_plan_fine b_L_plan_fine g_L_plan_fine F_law k_L_box b_L_box g_L_box k_L_right b_L_right g_L_right
  rintro f sp (⟨rfl, rfl⟩ | ⟨rfl, rfl⟩)
  · refine ⟨_, _, G1.imp fun vs H Q E hh => ?_, k_read_edit, b_read_edit⟩
    rcases hh with ⟨x, e1, e2, _, e3, e4⟩ | hh
    · exact .inl ⟨x, e1, e2, e3, e4⟩
    · exact .inr hh
  · exact ⟨_, _, G2.mono (by decide), k_read_plan, b_read_plan⟩
end K9

open PySem PySem.W PyProof.Rows
set_option maxHeartbeats 0 in
theorem PySem.Challenge.cw_sourceback_k92_texts_that_are_none_holds : PySem.Challenge.rw_sourceback_k92_texts_that_are_none.Holds := by
  w_on; o_law; k_head; (case hw => w_witness2)
  k_fill
  refine K9.walkG (l := PySem.Challenge.rw_sourceback_k92_texts_that_are_none) (n := 63) (k := 132) (x := "_law_script") (sp := fun K => K9.spLaw K) rfl (by decide) rfl ⟨rfl, by decide, by decide⟩ (fun w h Y => PySem.W.kIn_of Y) ?F (fun K H a ns hl hS => ⟨a, ns, rfl, hS, hl, fun _ => rfl⟩)
  case F =>
    intro w mg fa h KX G hmg
    refine' K9.all_mk KX G hmg ?yC ?yB ?yK ?yE ?yP ?yL ?a_sinit ?i_sinit ?l_sinit ?c_sinit ?k_sinit ?a_run_end ?l_run_end ?c_run_end ?k_run_end ?a_string_end ?l_string_end ?c_string_end ?k_string_end ?a_is_inner ?l_is_inner ?c_is_inner ?k_is_inner ?a_m_refuse ?i_m_refuse ?l_m_refuse ?c_m_refuse ?k_m_refuse ?a_B ?l_B ?c_B ?k_B ?a_m_sees ?i_m_sees ?l_m_sees ?c_m_sees ?k_m_sees ?a_m_accepts ?i_m_accepts ?l_m_accepts ?c_m_accepts ?k_m_accepts ?a_m_expect ?i_m_expect ?l_m_expect ?c_m_expect ?k_m_expect ?a_m_expect_end ?i_m_expect_end ?l_m_expect_end ?c_m_expect_end ?k_m_expect_end ?a_m_take_to ?i_m_take_to ?l_m_take_to ?c_m_take_to ?k_m_take_to ?a_is_name ?l_is_name ?c_is_name ?k_is_name ?a_number_in ?l_number_in ?c_number_in ?k_number_in ?a_m_take_word ?i_m_take_word ?l_m_take_word ?c_m_take_word ?k_m_take_word ?a_m_take_name ?i_m_take_name ?l_m_take_name ?c_m_take_name ?k_m_take_name ?a_m_take_number ?i_m_take_number ?l_m_take_number ?c_m_take_number ?k_m_take_number ?a_m_take_serial ?i_m_take_serial ?l_m_take_serial ?c_m_take_serial ?k_m_take_serial ?a_m_take_literal ?i_m_take_literal ?l_m_take_literal ?c_m_take_literal ?k_m_take_literal ?a_m_take_part ?i_m_take_part ?l_m_take_part ?c_m_take_part ?k_m_take_part ?a_m_take_path ?i_m_take_path ?l_m_take_path ?c_m_take_path ?k_m_take_path ?a_m_take_place ?i_m_take_place ?l_m_take_place ?c_m_take_place ?k_m_take_place ?a_m_take_spot ?i_m_take_spot ?l_m_take_spot ?c_m_take_spot ?k_m_take_spot ?a_m_take_record ?i_m_take_record ?l_m_take_record ?c_m_take_record ?k_m_take_record ?a_m_take_content ?i_m_take_content ?l_m_take_content ?c_m_take_content ?k_m_take_content ?a_m_take_rows ?i_m_take_rows ?l_m_take_rows ?c_m_take_rows ?k_m_take_rows ?a_take_step ?l_take_step ?c_take_step ?k_take_step ?a_take_edit ?l_take_edit ?c_take_edit ?k_take_edit ?a_read_edit ?l_read_edit ?c_read_edit ?k_read_edit ?a_take_serials ?l_take_serials ?c_take_serials ?k_take_serials ?a_take_deed ?l_take_deed ?c_take_deed ?k_take_deed ?a_comes_ahead ?l_comes_ahead ?c_comes_ahead ?k_comes_ahead ?a_take_plan ?l_take_plan ?c_take_plan ?k_take_plan ?a_read_plan ?l_read_plan ?c_read_plan ?k_read_plan ?a_L_take ?l_L_take ?c_L_take ?k_L_take ?a_L_of ?l_L_of ?c_L_of ?k_L_of ?a_L_box ?l_L_box ?c_L_box ?k_L_box ?a_L_name ?l_L_name ?c_L_name ?k_L_name ?a_L_literal ?l_L_literal ?c_L_literal ?k_L_literal ?a_L_record ?l_L_record ?c_L_record ?k_L_record ?a_L_label_path ?l_L_label_path ?c_L_label_path ?k_L_label_path ?a_L_edit ?l_L_edit ?c_L_edit ?k_L_edit ?a_L_deeds ?l_L_deeds ?c_L_deeds ?k_L_deeds ?a_L_any ?l_L_any ?c_L_any ?k_L_any ?a_L_bent_text ?l_L_bent_text ?c_L_bent_text ?k_L_bent_text ?a_L_lit_text ?l_L_lit_text ?c_L_lit_text ?k_L_lit_text ?a_L_path_text ?l_L_path_text ?c_L_path_text ?k_L_path_text ?a_L_place_text ?l_L_place_text ?c_L_place_text ?k_L_place_text ?a_L_record_text ?l_L_record_text ?c_L_record_text ?k_L_record_text ?a_L_worth_text ?l_L_worth_text ?c_L_worth_text ?k_L_worth_text ?a_L_step_text ?l_L_step_text ?c_L_step_text ?k_L_step_text ?a_L_edit_text ?l_L_edit_text ?c_L_edit_text ?k_L_edit_text ?a_L_deed_text ?l_L_deed_text ?c_L_deed_text ?k_L_deed_text ?a_L_plan_text ?l_L_plan_text ?c_L_plan_text ?k_L_plan_text ?a_L_is_literal ?l_L_is_literal ?c_L_is_literal ?k_L_is_literal ?a_L_edit_fine ?l_L_edit_fine ?c_L_edit_fine ?k_L_edit_fine ?a_L_plan_fine ?l_L_plan_fine ?c_L_plan_fine ?k_L_plan_fine ?a_L_asked ?l_L_asked ?c_L_asked ?k_L_asked ?a_L_right ?l_L_right ?c_L_right ?k_L_right ?a_law ?l_law ?c_law ?k_law ?y1 ?y2 ?y3 ?y4 ?y5 ?y6 ?y7 ?y8 ?y9 ?y10 ?y11 ?yW ?lW ?z1 ?z2 ?z3 ?z4 ?z5 ?z6 ?z7 ?z8 ?z9 ?z10 ?z11 ?z12 ?z13 ?z14 ?z15 ?z16 ?z17 ?s1 ?s2 ?s3 ?s4 ?s5 ?s6 ?s7 ?s8 ?lCB ?x1 ?x2 ?x3 ?x4 ?x5 ?x6 ?x7 ?x8 ?x9 ?x10 ?x12 ?x13 ?x14 ?x15 ?lK ?tK ?uK ?lE ?tE ?uE ?lP ?tP ?uP ?lL ?tL ?uL ?uKB ?uV ?nE ?nP ?nL
    (case yC => k_is)
    (case yB => k_is)
    (case yK => k_is)
    (case yE => k_is)
    (case yP => k_is)
    (case yL => k_is)
    (case a_sinit => k_is)
    (case i_sinit => k_is)
    (case l_sinit => k_is)
    (case c_sinit => k_is)
    (case k_sinit => k_is)
    (case a_run_end => k_is)
    (case l_run_end => k_is)
    (case c_run_end => k_is)
    (case k_run_end => k_is)
    (case a_string_end => k_is)
    (case l_string_end => k_is)
    (case c_string_end => k_is)
    (case k_string_end => k_is)
    (case a_is_inner => k_is)
    (case l_is_inner => k_is)
    (case c_is_inner => k_is)
    (case k_is_inner => k_is)
    (case a_m_refuse => k_is)
    (case i_m_refuse => k_is)
    (case l_m_refuse => k_is)
    (case c_m_refuse => k_is)
    (case k_m_refuse => k_is)
    (case a_B => k_is)
    (case l_B => k_is)
    (case c_B => k_is)
    (case k_B => k_is)
    (case a_m_sees => k_is)
    (case i_m_sees => k_is)
    (case l_m_sees => k_is)
    (case c_m_sees => k_is)
    (case k_m_sees => k_is)
    (case a_m_accepts => k_is)
    (case i_m_accepts => k_is)
    (case l_m_accepts => k_is)
    (case c_m_accepts => k_is)
    (case k_m_accepts => k_is)
    (case a_m_expect => k_is)
    (case i_m_expect => k_is)
    (case l_m_expect => k_is)
    (case c_m_expect => k_is)
    (case k_m_expect => k_is)
    (case a_m_expect_end => k_is)
    (case i_m_expect_end => k_is)
    (case l_m_expect_end => k_is)
    (case c_m_expect_end => k_is)
    (case k_m_expect_end => k_is)
    (case a_m_take_to => k_is)
    (case i_m_take_to => k_is)
    (case l_m_take_to => k_is)
    (case c_m_take_to => k_is)
    (case k_m_take_to => k_is)
    (case a_is_name => k_is)
    (case l_is_name => k_is)
    (case c_is_name => k_is)
    (case k_is_name => k_is)
    (case a_number_in => k_is)
    (case l_number_in => k_is)
    (case c_number_in => k_is)
    (case k_number_in => k_is)
    (case a_m_take_word => k_is)
    (case i_m_take_word => k_is)
    (case l_m_take_word => k_is)
    (case c_m_take_word => k_is)
    (case k_m_take_word => k_is)
    (case a_m_take_name => k_is)
    (case i_m_take_name => k_is)
    (case l_m_take_name => k_is)
    (case c_m_take_name => k_is)
    (case k_m_take_name => k_is)
    (case a_m_take_number => k_is)
    (case i_m_take_number => k_is)
    (case l_m_take_number => k_is)
    (case c_m_take_number => k_is)
    (case k_m_take_number => k_is)
    (case a_m_take_serial => k_is)
    (case i_m_take_serial => k_is)
    (case l_m_take_serial => k_is)
    (case c_m_take_serial => k_is)
    (case k_m_take_serial => k_is)
    (case a_m_take_literal => k_is)
    (case i_m_take_literal => k_is)
    (case l_m_take_literal => k_is)
    (case c_m_take_literal => k_is)
    (case k_m_take_literal => k_is)
    (case a_m_take_part => k_is)
    (case i_m_take_part => k_is)
    (case l_m_take_part => k_is)
    (case c_m_take_part => k_is)
    (case k_m_take_part => k_is)
    (case a_m_take_path => k_is)
    (case i_m_take_path => k_is)
    (case l_m_take_path => k_is)
    (case c_m_take_path => k_is)
    (case k_m_take_path => k_is)
    (case a_m_take_place => k_is)
    (case i_m_take_place => k_is)
    (case l_m_take_place => k_is)
    (case c_m_take_place => k_is)
    (case k_m_take_place => k_is)
    (case a_m_take_spot => k_is)
    (case i_m_take_spot => k_is)
    (case l_m_take_spot => k_is)
    (case c_m_take_spot => k_is)
    (case k_m_take_spot => k_is)
    (case a_m_take_record => k_is)
    (case i_m_take_record => k_is)
    (case l_m_take_record => k_is)
    (case c_m_take_record => k_is)
    (case k_m_take_record => k_is)
    (case a_m_take_content => k_is)
    (case i_m_take_content => k_is)
    (case l_m_take_content => k_is)
    (case c_m_take_content => k_is)
    (case k_m_take_content => k_is)
    (case a_m_take_rows => k_is)
    (case i_m_take_rows => k_is)
    (case l_m_take_rows => k_is)
    (case c_m_take_rows => k_is)
    (case k_m_take_rows => k_is)
    (case a_take_step => k_is)
    (case l_take_step => k_is)
    (case c_take_step => k_is)
    (case k_take_step => k_is)
    (case a_take_edit => k_is)
    (case l_take_edit => k_is)
    (case c_take_edit => k_is)
    (case k_take_edit => k_is)
    (case a_read_edit => k_is)
    (case l_read_edit => k_is)
    (case c_read_edit => k_is)
    (case k_read_edit => k_is)
    (case a_take_serials => k_is)
    (case l_take_serials => k_is)
    (case c_take_serials => k_is)
    (case k_take_serials => k_is)
    (case a_take_deed => k_is)
    (case l_take_deed => k_is)
    (case c_take_deed => k_is)
    (case k_take_deed => k_is)
    (case a_comes_ahead => k_is)
    (case l_comes_ahead => k_is)
    (case c_comes_ahead => k_is)
    (case k_comes_ahead => k_is)
    (case a_take_plan => k_is)
    (case l_take_plan => k_is)
    (case c_take_plan => k_is)
    (case k_take_plan => k_is)
    (case a_read_plan => k_is)
    (case l_read_plan => k_is)
    (case c_read_plan => k_is)
    (case k_read_plan => k_is)
    (case a_L_take => k_is)
    (case l_L_take => k_is)
    (case c_L_take => k_is)
    (case k_L_take => k_is)
    (case a_L_of => k_is)
    (case l_L_of => k_is)
    (case c_L_of => k_is)
    (case k_L_of => k_is)
    (case a_L_box => k_is)
    (case l_L_box => k_is)
    (case c_L_box => k_is)
    (case k_L_box => k_is)
    (case a_L_name => k_is)
    (case l_L_name => k_is)
    (case c_L_name => k_is)
    (case k_L_name => k_is)
    (case a_L_literal => k_is)
    (case l_L_literal => k_is)
    (case c_L_literal => k_is)
    (case k_L_literal => k_is)
    (case a_L_record => k_is)
    (case l_L_record => k_is)
    (case c_L_record => k_is)
    (case k_L_record => k_is)
    (case a_L_label_path => k_is)
    (case l_L_label_path => k_is)
    (case c_L_label_path => k_is)
    (case k_L_label_path => k_is)
    (case a_L_edit => k_is)
    (case l_L_edit => k_is)
    (case c_L_edit => k_is)
    (case k_L_edit => k_is)
    (case a_L_deeds => k_is)
    (case l_L_deeds => k_is)
    (case c_L_deeds => k_is)
    (case k_L_deeds => k_is)
    (case a_L_any => k_is)
    (case l_L_any => k_is)
    (case c_L_any => k_is)
    (case k_L_any => k_is)
    (case a_L_bent_text => k_is)
    (case l_L_bent_text => k_is)
    (case c_L_bent_text => k_is)
    (case k_L_bent_text => k_is)
    (case a_L_lit_text => k_is)
    (case l_L_lit_text => k_is)
    (case c_L_lit_text => k_is)
    (case k_L_lit_text => k_is)
    (case a_L_path_text => k_is)
    (case l_L_path_text => k_is)
    (case c_L_path_text => k_is)
    (case k_L_path_text => k_is)
    (case a_L_place_text => k_is)
    (case l_L_place_text => k_is)
    (case c_L_place_text => k_is)
    (case k_L_place_text => k_is)
    (case a_L_record_text => k_is)
    (case l_L_record_text => k_is)
    (case c_L_record_text => k_is)
    (case k_L_record_text => k_is)
    (case a_L_worth_text => k_is)
    (case l_L_worth_text => k_is)
    (case c_L_worth_text => k_is)
    (case k_L_worth_text => k_is)
    (case a_L_step_text => k_is)
    (case l_L_step_text => k_is)
    (case c_L_step_text => k_is)
    (case k_L_step_text => k_is)
    (case a_L_edit_text => k_is)
    (case l_L_edit_text => k_is)
    (case c_L_edit_text => k_is)
    (case k_L_edit_text => k_is)
    (case a_L_deed_text => k_is)
    (case l_L_deed_text => k_is)
    (case c_L_deed_text => k_is)
    (case k_L_deed_text => k_is)
    (case a_L_plan_text => k_is)
    (case l_L_plan_text => k_is)
    (case c_L_plan_text => k_is)
    (case k_L_plan_text => k_is)
    (case a_L_is_literal => k_is)
    (case l_L_is_literal => k_is)
    (case c_L_is_literal => k_is)
    (case k_L_is_literal => k_is)
    (case a_L_edit_fine => k_is)
    (case l_L_edit_fine => k_is)
    (case c_L_edit_fine => k_is)
    (case k_L_edit_fine => k_is)
    (case a_L_plan_fine => k_is)
    (case l_L_plan_fine => k_is)
    (case c_L_plan_fine => k_is)
    (case k_L_plan_fine => k_is)
    (case a_L_asked => k_is)
    (case l_L_asked => k_is)
    (case c_L_asked => k_is)
    (case k_L_asked => k_is)
    (case a_L_right => k_is)
    (case l_L_right => k_is)
    (case c_L_right => k_is)
    (case k_L_right => k_is)
    (case a_law => k_is)
    (case l_law => k_is)
    (case c_law => k_is)
    (case k_law => k_is)
    (case y1 => k_is)
    (case y2 => k_is)
    (case y3 => k_is)
    (case y4 => k_is)
    (case y5 => k_is)
    (case y6 => k_is)
    (case y7 => k_is)
    (case y8 => k_is)
    (case y9 => k_is)
    (case y10 => k_is)
    (case y11 => k_is)
    (case yW => k_is)
    (case lW => k_is)
    (case z1 => k_is)
    (case z2 => k_is)
    (case z3 => k_is)
    (case z4 => k_is)
    (case z5 => k_is)
    (case z6 => k_is)
    (case z7 => k_is)
    (case z8 => k_is)
    (case z9 => k_is)
    (case z10 => k_is)
    (case z11 => k_is)
    (case z12 => k_is)
    (case z13 => k_is)
    (case z14 => k_is)
    (case z15 => k_is)
    (case z16 => k_is)
    (case z17 => k_is)
    (case s1 => k_is)
    (case s2 => k_is)
    (case s3 => k_is)
    (case s4 => k_is)
    (case s5 => k_is)
    (case s6 => k_is)
    (case s7 => k_is)
    (case s8 => k_is)
    (case lCB => k_is)
    (case x2 => k_is)
    (case x3 => k_is)
    (case x4 => k_is)
    (case x5 => k_is)
    (case x6 => k_is)
    (case x7 => k_is)
    (case x8 => k_is)
    (case x9 => k_is)
    (case x10 => k_is)
    (case x12 => k_is)
    (case x13 => k_is)
    (case x14 => k_is)
    (case x15 => k_is)
    (case lK => k_is)
    (case tK => k_is)
    (case uK => k_is)
    (case lE => k_is)
    (case tE => k_is)
    (case uE => k_is)
    (case lP => k_is)
    (case tP => k_is)
    (case uP => k_is)
    (case lL => k_is)
    (case tL => k_is)
    (case uL => k_is)
    (case uKB => k_is)
    (case uV => k_is)
    (case nE => rfl)
    (case nP => rfl)
    (case nL => rfl)
    (case x1 => exact ⟨_, _, _, _, _, _, _, _, _, _, _, _, _, _, _, rfl, rfl⟩)

